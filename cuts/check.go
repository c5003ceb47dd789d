package cuts

import (
	"slices"

	"surveyor/api"
	"surveyor/fact"
	"surveyor/rational"
)

// none is in place of the index of a congruence by which a step rounds.
const none = -1

// checkFacts returns the first error of facts, of which there may be so many.
func checkFacts(n int, facts []api.Fact, most int) api.Errno {
	switch {
	case n < 0 || n > api.MaxDims:
		return api.ErrRange
	case len(facts) > most:
		return api.ErrMany
	}
	for _, f := range facts {
		if e := fact.Check(f, n); e != api.OK {
			return e
		}
	}
	return api.OK
}

// checkTarget returns the first error of hypotheses and a target.
func checkTarget(n int, hyps []api.Fact, target api.Fact) api.Errno {
	if e := Check(n, hyps); e != api.OK {
		return e
	}
	return fact.Check(target, n)
}

// checkStep returns the error of a step, where the facts have none.
func checkStep(n int, facts []api.Fact, c api.Cut) api.Errno {
	if e := fact.Check(c.Result, n); e != api.OK {
		return e
	}
	if len(c.Terms) > api.MaxPieces {
		return api.ErrMany
	}
	for _, t := range c.Terms {
		if !isIndex(t.Fact, facts) {
			return api.ErrNone
		}
		if e := rational.Check(t.Mult); e != api.OK {
			return e
		}
	}
	if c.Round != none && !isIndex(c.Round, facts) {
		return api.ErrNone
	}
	s, e := newStep(facts, c)
	switch {
	case e != api.OK:
		return e
	case !s.isRight():
		return api.ErrProof
	}
	return api.OK
}

func isIndex(i int, facts []api.Fact) bool {
	return i >= 0 && i < len(facts)
}

// areEqual reports whether facts that have no error are the same.
func areEqual(f, g api.Fact) bool {
	return f.Op == g.Op && haveSameNumbers(f, g) && f.Mod == g.Mod
}

// haveSameNumbers reports whether the expressions of facts are the same.
func haveSameNumbers(f, g api.Fact) bool {
	return slices.Equal(f.Coef, g.Coef) && f.Const == g.Const
}

// isCongruenceOf reports whether a fact is a congruence with the coefficients of another one.
func isCongruenceOf(g, f api.Fact) bool {
	return g.Op == api.FactMod && slices.Equal(g.Coef, f.Coef)
}

// isFalsehood reports whether a fact that has no error has only coefficients that are 0, and does not hold.
func isFalsehood(f api.Fact) bool {
	isConstant := !slices.ContainsFunc(f.Coef, func(x api.Int) bool { return x != "0" })
	normal, _ := fact.Normal(f, len(f.Coef))
	return isConstant && len(normal) > 0
}
