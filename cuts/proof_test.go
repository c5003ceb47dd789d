package cuts

import (
	"math/rand"
	"slices"
	"testing"

	"surveyor/api"
)

// chain are hypotheses, and a proof with steps that are not used: numbers 3, 5 and 7.
func chain() (hyps []api.Fact, target api.Fact, proof []api.Cut) {
	hyps = list(ge("-3", "2", "0"), ge("-1", "0", "1"), mod("5", "0", "1", "0"))
	return hyps, ge("-6", "1", "1"), []api.Cut{
		cut("1:2", -1, ge("-2", "0", "2")),
		cut("0:1/2", -1, ge("-2", "1", "0")),
		cut("3:1", -1, ge("-1", "0", "2")),
		cut("2:3", -1, mod("15", "0", "3", "0")),
		cut("4:1", 2, ge("-5", "1", "0")),
		cut("7:1 5:1", -1, ge("-5", "1", "2")),
		cut("7:1 1:1 4:0", -1, ge("-6", "1", "1")),
	}
}

func TestP7_1Verify(t *testing.T) {
	hyps, target, proof := chain()
	want(t, "Verify", Verify(2, hyps, target, proof), api.OK, 0, 0)
	for i := range proof {
		want(t, "Verify of a part", Verify(2, hyps, proof[i].Result, proof[:i+1]), api.OK, 0, 0)
		want(t, "Verify of a part", Verify(2, hyps, ge("77", "1", "1"), proof[:i+1]), api.ErrProof, 0, 0)
	}
	want(t, "Verify of a step that is not the last one", Verify(2, hyps, ge("-5", "1", "0"), proof), api.ErrProof, 0, 0)
	for i := range hyps {
		want(t, "Verify of a hypothesis", Verify(2, hyps, hyps[i], nil), api.OK, 0, 0)
		want(t, "Verify of a hypothesis", Verify(2, hyps, hyps[i], proof), api.ErrProof, 0, 0)
		want(t, "Verify of a hypothesis", Verify(2, hyps, hyps[i], proof[:1]), api.ErrProof, 0, 0)
		want(t, "Verify without this hypothesis", Verify(2, slices.Delete(slices.Clone(hyps), i, i+1), hyps[i], nil), api.ErrProof, 0, 0)
	}
	for _, other := range list(eq("-3", "2", "0"), ge("-4", "2", "0"), ge("-3", "2", "1"), ge("-3", "4", "0"), mod("10", "0", "1", "0"), mod("5", "5", "1", "0"), ge("0", "1", "0")) {
		want(t, "Verify of another fact", Verify(2, hyps, other, nil), api.ErrProof, 0, 0)
	}
	want(t, "Verify of nothing", Verify(0, nil, ge("1"), nil), api.ErrProof, 0, 0)
	want(t, "Verify of nothing", Verify(0, nil, ge("1"), []api.Cut{cut("", -1, ge("1"))}), api.OK, 0, 0)
}

// brokenProofs are changes of a proof over two variables from three hypotheses, with the error of the first step with one.
func brokenProofs(proof []api.Cut) []struct {
	proof []api.Cut
	e     api.Errno
} {
	changed := func(i int, c api.Cut) []api.Cut {
		list := slices.Clone(proof)
		list[i] = c
		return list
	}
	return []struct {
		proof []api.Cut
		e     api.Errno
	}{
		{changed(1, cut("0:1/2", -1, ge("-3", "1", "0"))), api.ErrProof}, {changed(1, cut("4:1", -1, ge("-3", "1", "0"))), api.ErrNone}, {changed(1, cut("9:1", -1, ge("-3", "1", "0"))), api.ErrNone}, {changed(0, cut("3:1", -1, ge("-3", "1", "0"))), api.ErrNone}, {changed(4, cut("4:1", 7, ge("-5", "1", "0"))), api.ErrNone}, {changed(4, cut("4:1", 6, ge("-5", "1", "0"))), api.ErrProof},
		{changed(3, cut("2:x", -1, mod("15", "0", "3", "0"))), api.ErrForm}, {changed(3, cut("2:3", -1, mod("1", "0", "3", "0"))), api.ErrRange}, {changed(3, cut("2:3", -1, mod("15", "0", "3"))), api.ErrShape}, {changed(3, cut("2:3", -9, mod("15", "0", "3", "0"))), api.ErrNone}, {changed(3, api.Cut{Terms: make([]api.Term, api.MaxPieces+1), Result: proof[3].Result}), api.ErrMany},
		{append(changed(1, cut("0:1", -1, ge("-2", "1", "0"))), cut("0:x", -1, ge("-2", "1", "0"))), api.ErrProof}, {append(slices.Clone(proof), cut("0:x", -1, ge("-2", "1", "0"))), api.ErrForm}, {proof[:6], api.ErrProof}, {proof[1:], api.ErrProof}, {slices.Repeat(proof, 37), api.ErrMany}, {make([]api.Cut, api.MaxCuts+1), api.ErrMany}, {make([]api.Cut, api.MaxCuts), api.ErrShape}, {nil, api.ErrProof},
	}
}

func TestP7_1BrokenProofs(t *testing.T) {
	hyps, target, proof := chain()
	for i, x := range brokenProofs(proof) {
		want(t, "Verify of a broken proof", []any{i, Verify(2, hyps, target, x.proof)}, []any{i, x.e}, 0, 0)
		trimmed, e := Trim(2, hyps, target, x.proof)
		want(t, "Trim of a broken proof", []any{i, len(trimmed)}, []any{i, 0}, e, x.e)
	}
}

// TestP7_1ManySteps has as many hypotheses and steps as there may be.
func TestP7_1ManySteps(t *testing.T) {
	hyps := append(slices.Repeat(list(ge("0", "0")), api.MaxPieces-1), ge("0", "1"))
	var proof []api.Cut
	for i := range api.MaxCuts {
		proof = append(proof, api.Cut{Terms: []api.Term{{Fact: api.MaxPieces - 1 + i, Mult: "1"}}, Round: -1, Result: ge(api.Int(rune('0'+i%10)), "1")})
		if i%10 == 0 {
			proof[i].Terms[0].Fact = api.MaxPieces - 1
		}
	}
	target := proof[api.MaxCuts-1].Result
	want(t, "Verify", Verify(1, hyps, target, proof), api.OK, 0, 0)
	trimmed, e := Trim(1, hyps, target, proof)
	want(t, "Trim", len(trimmed), 6, e, api.OK)
	want(t, "Verify", Verify(1, hyps, target, trimmed), api.OK, 0, 0)
	want(t, "Verify", Verify(1, hyps, target, append(proof, proof[api.MaxCuts-1])), api.ErrMany, 0, 0)
}

func TestP7_1Trim(t *testing.T) {
	hyps, target, proof := chain()
	trimmed, e := Trim(2, hyps, target, proof)
	want(t, "Trim", trimmed, []api.Cut{cut("0:1/2", -1, ge("-2", "1", "0")), cut("3:1", 2, ge("-5", "1", "0")), cut("4:1 1:1 3:0", -1, ge("-6", "1", "1"))}, e, api.OK)
	want(t, "Verify", Verify(2, hyps, target, trimmed), api.OK, 0, 0)
	again, e := Trim(2, hyps, target, trimmed)
	want(t, "Trim", again, trimmed, e, api.OK)
	for _, x := range []struct {
		target       api.Fact
		proof, wants []api.Cut
	}{
		{hyps[0], nil, nil}, {proof[0].Result, proof[:1], proof[:1]}, {proof[1].Result, proof[:2], []api.Cut{proof[1]}}, {proof[2].Result, proof[:3], []api.Cut{proof[0], cut("3:1", -1, ge("-1", "0", "2"))}},
		{ge("-5", "1", "0"), append(slices.Clone(proof[:4]), cut("2:1", -1, mod("5", "0", "1", "0")), cut("4:1", 7, ge("-5", "1", "0"))), []api.Cut{proof[1], cut("2:1", -1, mod("5", "0", "1", "0")), cut("3:1", 4, ge("-5", "1", "0"))}},
	} {
		trimmed, e := Trim(2, hyps, x.target, x.proof)
		want(t, "Trim for "+short(x.target), trimmed, x.wants, e, api.OK)
	}
}

// randomProof returns random right steps, and the index of hypotheses and steps.
func randomProof(random *rand.Rand, hyps []api.Fact, n int) []api.Cut {
	facts := slices.Clone(hyps)
	var proof []api.Cut
	for range 60 {
		if c := randomStep(random, facts, n); isRightStep(facts, c) {
			proof, facts = append(proof, c), append(facts, c.Result)
		}
	}
	return proof
}

// used returns the indices of the steps that are used.
func used(hyps int, proof []api.Cut) []int {
	reached := map[int]bool{}
	var reach func(i int)
	reach = func(i int) {
		if i < hyps || reached[i-hyps] {
			return
		}
		reached[i-hyps] = true
		reach(proof[i-hyps].Round)
		for _, x := range proof[i-hyps].Terms {
			reach(x.Fact)
		}
	}
	reach(hyps + len(proof) - 1)
	var indices []int
	for i := range proof {
		if reached[i] {
			indices = append(indices, i)
		}
	}
	return indices
}

// TestP7_3Proofs checks proofs of random steps: they are right, changes are found, what they prove holds, and a trimmed proof has the steps that are used, proves its target, and is trimmed.
func TestP7_3Proofs(t *testing.T) {
	random := rand.New(rand.NewSource(3))
	for range 400 {
		n := 1 + random.Intn(2)
		hyps := randomFacts(random, n, random.Intn(5))
		hyps = append(hyps, opposite(randomFact(random, n)))
		proof := randomProof(random, hyps, n)
		if len(proof) == 0 {
			continue
		}
		target := proof[len(proof)-1].Result
		want(t, "Verify", Verify(n, hyps, target, proof), api.OK, 0, 0)
		points(n, 6, func(point []int) {
			if allHold(hyps, point) && !allHold(list(target), point) {
				t.Fatalf("%s does not hold at %v", short(target), point)
			}
		})
		trimmed, e := Trim(n, hyps, target, proof)
		indices := used(len(hyps), proof)
		if e != api.OK || len(trimmed) != len(indices) || !isProof(hyps, target, trimmed) || len(used(len(hyps), trimmed)) != len(trimmed) {
			t.Fatalf("Trim of %s: got %s and %d", short(proof), short(trimmed), e)
		}
		for i, k := range indices {
			want(t, "the result of a step", trimmed[i].Result, proof[k].Result, 0, 0)
		}
		again, e := Trim(n, hyps, target, trimmed)
		want(t, "Trim", again, trimmed, e, api.OK)
		checkChanged(t, random, n, hyps, target, proof)
	}
}

// checkChanged compares Verify with the reference for a proof in which something is changed.
func checkChanged(t *testing.T, random *rand.Rand, n int, hyps []api.Fact, target api.Fact, proof []api.Cut) {
	t.Helper()
	for range 5 {
		changed := slices.Clone(proof)
		i := random.Intn(len(changed))
		facts := slices.Clone(hyps)
		for _, c := range changed[:i] {
			facts = append(facts, c.Result)
		}
		changed[i] = randomStep(random, facts, n)
		if random.Intn(2) == 0 {
			changed[i].Result = proof[i].Result
		}
		wanted := api.ErrProof
		if isProof(hyps, target, changed) {
			wanted = api.OK
		}
		want(t, "Verify of "+short(changed), Verify(n, hyps, target, changed), wanted, 0, 0)
	}
}

// TestMemory checks that arguments are not changed, and that results share no memory with them or each other.
func TestMemory(t *testing.T) {
	hyps, target, proof := chain()
	hyps, proof = slices.Grow(hyps, 50), slices.Grow(proof, 50)
	equation, multiple := eq("-1", "0", "1"), mod("5", "0", "2", "0")
	all := append(list(ge("1", "0", "-1")), hyps...)
	before := text([]any{hyps, target, proof, equation, multiple, all})
	Step(2, hyps, proof[0])
	Verify(2, hyps, target, proof)
	trimmed, _ := Trim(2, hyps, target, proof)
	found, ok, _ := Prove(2, all, equation)
	congruence, okay, _ := Prove(2, all, multiple)
	contradiction := append(slices.Clone(all), equation, ge("-2", "0", "1"), ge("1", "0", "-1"))
	refuted, contradicts, _ := Refute(2, contradiction)
	anything, follows, _ := Prove(2, contradiction, target)
	bound, holds, _ := Prove(2, all, all[1])
	if !ok || !okay || !contradicts || !follows || !holds {
		t.Fatalf("got %t, %t, %t, %t, %t", ok, okay, contradicts, follows, holds)
	}
	for _, list := range [][]api.Cut{trimmed, found, congruence, refuted, anything, bound} {
		for i := range list {
			for k := range list[i].Result.Coef {
				list[i].Result.Coef[k] = "77"
			}
			for k := range list[i].Terms {
				list[i].Terms[k] = api.Term{Fact: 77, Mult: "77"}
			}
			for j := i + 1; j < len(list); j++ {
				if slices.Contains(list[j].Result.Coef, "77") || slices.Contains(list[j].Terms, api.Term{Fact: 77, Mult: "77"}) {
					t.Errorf("steps %d and %d share memory", i, j)
				}
			}
		}
	}
	if after := text([]any{hyps, target, proof, equation, multiple, all}); after != before {
		t.Errorf("the arguments became %s", after)
	}
	for _, f := range hyps[len(hyps):cap(hyps)] {
		if f.Coef != nil || f.Const != "" {
			t.Errorf("behind the hypotheses there is %s", short(f))
		}
	}
}
