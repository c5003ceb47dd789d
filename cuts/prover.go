package cuts

import (
	"surveyor/api"
	"surveyor/bigint"
	"surveyor/fact"
	"surveyor/integer"
	"surveyor/simplex"
)

// prover searches for proofs from hypotheses over n variables.
type prover struct {
	n    int
	hyps []api.Fact
}

// prove returns a proof of a target, if it is proved by search.
func (p prover) prove(target api.Fact) ([]api.Cut, bool, api.Errno) {
	switch target.Op {
	case api.FactGe:
		return p.proveBounds(target, []api.Fact{target})
	case api.FactEq:
		return p.proveBounds(target, bothBounds(target))
	}
	places, constraints := p.without(api.FactMod)
	feasible, _, mult, e := simplex.Feasible(constraints, p.n)
	switch {
	case e != api.OK:
		return nil, false, e
	case !feasible:
		return p.refutation(terms(mult, places), target), true, api.OK
	}
	proof, ok := p.proveCongruence(target)
	return proof, ok, api.OK
}

// without returns the indices of the hypotheses that are not of a kind, and these hypotheses.
func (p prover) without(op int) ([]int, []api.Fact) {
	var places []int
	var facts []api.Fact
	for i, f := range p.hyps {
		if f.Op != op {
			places, facts = append(places, i), append(facts, f)
		}
	}
	return places, facts
}

// terms returns the multiples of facts at these places, but those by 0.
func terms(mult []api.Rat, places []int) []api.Term {
	var list []api.Term
	for i, x := range mult {
		if x != "0" {
			list = append(list, api.Term{Fact: places[i], Mult: x})
		}
	}
	return list
}

// refutation returns the proof of a target from hypotheses whose multiples have the sum -1.
func (p prover) refutation(list []api.Term, target api.Fact) []api.Cut {
	falsehood, _ := fact.False(p.n)
	proof := []api.Cut{{Terms: list, Round: none, Result: falsehood}}
	if !areEqual(falsehood, target) {
		proof = append(proof, api.Cut{Terms: p.steps(1), Round: none, Result: copied(target)})
	}
	return proof
}

// steps returns the results of the first steps of a proof as terms.
func (p prover) steps(count int) []api.Term {
	var list []api.Term
	for i := range count {
		list = append(list, api.Term{Fact: len(p.hyps) + i, Mult: "1"})
	}
	return list
}

// bothBounds returns the inequalities by which the expression of a fact is neither negative nor positive.
func bothBounds(f api.Fact) []api.Fact {
	opposite := func(x api.Int) api.Int {
		result, _ := bigint.Neg(x)
		return result
	}
	return []api.Fact{
		{Op: api.FactGe, Coef: f.Coef, Const: f.Const, Mod: "0"},
		{Op: api.FactGe, Coef: mapped(f.Coef, opposite), Const: opposite(f.Const), Mod: "0"},
	}
}

// proveBounds proves a target by its parts: an inequality by itself, an equation by two inequalities.
func (p prover) proveBounds(target api.Fact, parts []api.Fact) ([]api.Cut, bool, api.Errno) {
	var proof []api.Cut
	places, constraints := p.without(api.FactMod)
	for _, part := range parts {
		o, e := simplex.Minimize(objective(part), constraints)
		switch {
		case e != api.OK:
			return nil, false, e
		case o.Verdict == api.ProgramInfeasible:
			return p.refutation(terms(o.Mult, places), target), true, api.OK
		case o.Verdict == api.ProgramUnbounded:
			return nil, false, api.OK
		}
		c := api.Cut{Terms: terms(o.Mult, places), Round: p.congruenceOf(part), Result: copied(part)}
		s, e := newStep(p.hyps, c)
		if e != api.OK || !s.isRight() {
			return nil, false, e
		}
		proof = append(proof, c)
	}
	if target.Op == api.FactEq {
		proof = append(proof, api.Cut{Terms: p.steps(len(parts)), Round: none, Result: copied(target)})
	}
	return proof, true, api.OK
}

// objective returns the part of an expression with variables.
func objective(f api.Fact) api.Linear {
	return api.Linear{Coef: mapped(f.Coef, func(x api.Int) api.Rat { return api.Rat(x) }), Const: "0"}
}

// congruenceOf returns the index of the first congruence with the same coefficients, or none.
func (p prover) congruenceOf(f api.Fact) int {
	for i, g := range p.hyps {
		if isCongruenceOf(g, f) {
			return i
		}
	}
	return none
}

// proveCongruence proves a congruence by the lattice of equations and congruences.
func (p prover) proveCongruence(target api.Fact) ([]api.Cut, bool) {
	places, facts := p.without(api.FactGe)
	mult, ok := latticeOf(integer.Parse(target.Mod), p.n+1, facts).multipliers(target)
	if !ok {
		return nil, false
	}
	list := terms(mapped(mult, func(x integer.Number) api.Rat { return api.Rat(x.Text()) }), places)
	return []api.Cut{{Terms: list, Round: none, Result: copied(target)}}, true
}

// mapped returns the results of a function for all elements of a list.
func mapped[A, B any](list []A, function func(x A) B) []B {
	results := make([]B, len(list))
	for i, x := range list {
		results[i] = function(x)
	}
	return results
}
