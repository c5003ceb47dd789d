package cuts

import (
	"slices"

	"surveyor/api"
)

// trimmed returns the steps of a proof that are used, where there are so many hypotheses. The terms of all steps have lower indices.
func trimmed(hyps int, proof []api.Cut) []api.Cut {
	isUsed := usedSteps(hyps, proof)
	index := make([]int, hyps+len(proof))
	for i := range hyps {
		index[i] = i
	}
	var rest []api.Cut
	for i, c := range proof {
		if isUsed[i] {
			index[hyps+i] = hyps + len(rest)
			rest = append(rest, renumbered(c, index))
		}
	}
	return rest
}

// usedSteps reports for each step of a proof whether it is the last one, or is used by a step that is used.
func usedSteps(hyps int, proof []api.Cut) []bool {
	isUsed := make([]bool, len(proof))
	use := func(i int) {
		if i >= hyps {
			isUsed[i-hyps] = true
		}
	}
	use(hyps + len(proof) - 1)
	for i, c := range slices.Backward(proof) {
		if !isUsed[i] {
			continue
		}
		use(c.Round)
		for _, t := range c.Terms {
			use(t.Fact)
		}
	}
	return isUsed
}

// renumbered returns a copy of a step with other indices.
func renumbered(c api.Cut, index []int) api.Cut {
	result := api.Cut{Round: c.Round, Result: copied(c.Result)}
	if c.Round != none {
		result.Round = index[c.Round]
	}
	for _, t := range c.Terms {
		result.Terms = append(result.Terms, api.Term{Fact: index[t.Fact], Mult: t.Mult})
	}
	return result
}

// copied returns a fact that shares no memory with another one.
func copied(f api.Fact) api.Fact {
	f.Coef = slices.Clone(f.Coef)
	return f
}
