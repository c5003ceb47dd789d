package printer

import (
	"surveyor/api"
	"surveyor/lexer"
)

// kinds is a set of kinds of nodes: the bits with their numbers.
type kinds uint32

// What can stand where.
const (
	names        kinds = 1 << api.NodeName
	lists        kinds = 1 << api.NodeList
	params       kinds = 1 << api.NodeParam
	places       kinds = 1 << api.NodePlace
	whens        kinds = 1 << api.NodeWhen
	blocks       kinds = 1 << api.NodeBlock
	branches     kinds = 1 << api.NodeIf
	calls        kinds = 1 << api.NodeCall
	programs     kinds = 1 << api.NodeProgram
	procedures   kinds = 1 << api.NodeProc
	units        kinds = 1<<api.NodeRecord | procedures
	declarations kinds = 1<<api.NodeVar | 1<<api.NodeArray
	statements   kinds = 1<<api.NodeAssign | 1<<api.NodeStore | 1<<api.NodeWhile | 1<<api.NodeAssert | 1<<api.NodeAssume | branches
	conditions   kinds = 1<<api.NodeNumber | 1<<api.NodeTruth | 1<<api.NodeUnary | 1<<api.NodeBinary | places
	rights       kinds = 1<<api.NodeInput | 1<<api.NodeLoad | calls | conditions
)

func (k kinds) has(kind int) bool {
	return kind >= api.NodeProgram && kind <= api.NodeTruth && k>>kind&1 == 1
}

// many is a number of kids that has no bound.
const many = -1

// part says what the nodes of a kind are.
type part struct {
	least, most int     // how many kids they have
	kids        []kinds // what the kids can be: the last one counts for all that follow
	text        func(string) api.Errno
	write       func(*writer, api.Syntax)
}

// parts returns the parts of all kinds. A list of places, the block of a procedure, and an assignment without places have other kids (see kidsOf).
func parts() map[int]part {
	return map[int]part{
		api.NodeProgram: {0, many, []kinds{units}, isEmpty, (*writer).lines},
		api.NodeRecord:  {1, many, []kinds{names}, lexer.Name, (*writer).record},
		api.NodeProc:    {4, 5, []kinds{lists, lists, whens, whens, blocks}, lexer.Name, (*writer).procedure},
		api.NodeList:    {0, many, []kinds{params}, isEmpty, (*writer).list},
		api.NodeParam:   {0, 1, []kinds{names}, lexer.Name, (*writer).param},
		api.NodeWhen:    {0, 1, []kinds{conditions}, isEmpty, (*writer).conditions},
		api.NodeBlock:   {0, many, []kinds{statements}, isEmpty, (*writer).block},
		api.NodeVar:     {1, many, []kinds{params}, isEmpty, (*writer).variables},
		api.NodeArray:   {0, 0, nil, lexer.Name, (*writer).array},
		api.NodeAssign:  {2, 2, []kinds{lists, rights}, isEmpty, (*writer).assignment},
		api.NodeStore:   {2, 2, []kinds{conditions}, lexer.Name, (*writer).store},
		api.NodeIf:      {2, 3, []kinds{conditions, blocks, blocks | branches}, isEmpty, (*writer).choice},
		api.NodeWhile:   {2, 2, []kinds{conditions, blocks}, isEmpty, (*writer).loop},
		api.NodeAssert:  {1, 1, []kinds{conditions}, isEmpty, (*writer).assertion},
		api.NodeAssume:  {1, 1, []kinds{conditions}, isEmpty, (*writer).assumption},
		api.NodeInput:   {0, 0, nil, isEmpty, (*writer).input},
		api.NodeLoad:    {1, 1, []kinds{conditions}, lexer.Name, (*writer).element},
		api.NodeCall:    {0, many, []kinds{conditions}, lexer.Name, (*writer).call},
		api.NodePlace:   {0, 1, []kinds{names}, lexer.Name, (*writer).place},
		api.NodeName:    {0, 0, nil, lexer.Name, (*writer).word},
		api.NodeNumber:  {0, 0, nil, isNumber, (*writer).word},
		api.NodeUnary:   {1, 1, []kinds{conditions}, isUnary, (*writer).unary},
		api.NodeBinary:  {2, 2, []kinds{conditions}, isBinary, (*writer).binary},
		api.NodeTruth:   {0, 0, nil, isTruth, (*writer).word},
	}
}

// formIf is the error of a text that is not a name.
func formIf(isRight bool) api.Errno {
	if isRight {
		return api.OK
	}
	return api.ErrForm
}

func isEmpty(text string) api.Errno {
	return formIf(text == "")
}

func isNumber(text string) api.Errno {
	return formIf(lexer.Number(text) == api.OK)
}

func isTruth(text string) api.Errno {
	return formIf(text == "true" || text == "false")
}

func isUnary(text string) api.Errno {
	return formIf(operatorOf(api.NodeUnary, text).strength != none)
}

func isBinary(text string) api.Errno {
	return formIf(operatorOf(api.NodeBinary, text).strength != none)
}
