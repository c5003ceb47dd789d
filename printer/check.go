package printer

import (
	"slices"

	"surveyor/api"
)

// visit is a node that is to be checked.
type visit struct {
	node    *api.Syntax
	allowed kinds // what can stand there
	parent  int   // the kind of the node above
	depth   int   // how many nodes there are from the top to this one
}

// check returns the depth of a tree, or the error of the first node in preorder with an error. It keeps a list of the nodes to come, as trees can be deeper than calls.
func check(t api.Syntax, allowed kinds) (int, api.Errno) {
	parts := parts()
	depth := 0
	pending := []visit{{&t, allowed, none, 1}}
	for len(pending) > 0 {
		v := pending[len(pending)-1]
		pending = pending[:len(pending)-1]
		if e := checkNode(*v.node, v.allowed, parts); e != api.OK {
			return 0, e
		}
		depth = max(depth, v.depth)
		for i, allowed := range slices.Backward(kidsOf(v, parts)) {
			pending = append(pending, visit{&v.node.Kids[i], allowed, v.node.Kind, v.depth + 1})
		}
	}
	return depth, api.OK
}

// checkNode returns the error of a node alone.
func checkNode(t api.Syntax, allowed kinds, parts map[int]part) api.Errno {
	p := parts[t.Kind]
	switch {
	case !allowed.has(t.Kind):
		return api.ErrArg
	case len(t.Kids) < p.least, p.most != many && len(t.Kids) > p.most:
		return api.ErrShape
	}
	if e := p.text(t.Text); e != api.OK {
		return e
	}
	most := 0
	if t.Kind == api.NodeArray {
		most = api.MaxNumber
	}
	return formIf(t.Num >= 0 && t.Num <= most)
}

// kidsOf returns what each kid of a node can be, if the node has no error.
func kidsOf(v visit, parts map[int]part) []kinds {
	t := *v.node
	allowed := parts[t.Kind].kids
	switch {
	case t.Kind == api.NodeList && v.parent == api.NodeAssign:
		allowed = []kinds{places}
	case t.Kind == api.NodeAssign && len(t.Kids[0].Kids) == 0:
		allowed = []kinds{lists, calls}
	}
	list := make([]kinds, len(t.Kids))
	for i := range list {
		list[i] = allowed[min(i, len(allowed)-1)]
	}
	if v.parent == api.NodeProc && t.Kind == api.NodeBlock {
		allowDeclarations(list, t.Kids)
	}
	return list
}

// allowDeclarations adds declarations to what the kids of a block can be that have nothing but declarations before them.
func allowDeclarations(list []kinds, kids []api.Syntax) {
	for i, kid := range kids {
		list[i] |= declarations
		if !declarations.has(kid.Kind) {
			return
		}
	}
}
