package cuts

import (
	"fmt"
	"math"
	"math/big"
	"math/rand"
	"slices"
	"testing"

	"surveyor/api"
)

type badFact struct {
	f api.Fact
	e api.Errno
}

// badFacts are facts with errors where facts over two variables are expected.
func badFacts() []badFact {
	tooLong := longest() + "0"
	return []badFact{
		{api.Fact{Op: 3, Coef: []api.Int{"x"}}, api.ErrArg}, {api.Fact{Op: -1, Coef: []api.Int{"1", "1"}, Const: "0", Mod: "0"}, api.ErrArg}, {ge("x", "1"), api.ErrShape}, {eq("x"), api.ErrShape}, {mod("0", "0", "1", "1", "1"), api.ErrShape},
		{ge("0", "", "1"), api.ErrForm}, {ge("0", "1", "-0"), api.ErrForm}, {eq("01", "1", "1"), api.ErrForm}, {ge("1/2", "1", "1"), api.ErrForm}, {mod("x", "0", "1", "1"), api.ErrForm}, {ge("0", tooLong, "x"), api.ErrLarge}, {ge("-"+tooLong, "1", "1"), api.ErrLarge}, {mod(tooLong, "1", "1", "1"), api.ErrLarge},
		{mod("1", "0", "1", "1"), api.ErrRange}, {mod("0", "0", "1", "1"), api.ErrRange}, {mod("-2", "0", "1", "1"), api.ErrRange}, {api.Fact{Op: api.FactEq, Coef: []api.Int{"1", "1"}, Const: "0", Mod: "2"}, api.ErrRange}, {api.Fact{Op: api.FactGe, Coef: []api.Int{"1", "1"}, Const: "0", Mod: "1"}, api.ErrRange},
	}
}

type badFactList struct {
	n     int
	facts []api.Fact
	e     api.Errno
}

// badLists are lists of facts with errors, where there may be so many facts.
func badLists(most int) []badFactList {
	bad := []badFactList{
		{-1, nil, api.ErrRange}, {api.MaxDims + 1, nil, api.ErrRange}, {math.MinInt, make([]api.Fact, most+1), api.ErrRange}, {math.MaxInt, make([]api.Fact, most+1), api.ErrRange}, {-1, list(ge("0")), api.ErrRange}, {api.MaxDims + 1, list(ge("0", slices.Repeat([]api.Int{"1"}, api.MaxDims+1)...)), api.ErrRange},
		{0, slices.Repeat(list(ge("0")), most+1), api.ErrMany}, {2, make([]api.Fact, most+1), api.ErrMany}, {2, slices.Repeat(list(ge("x", "1", "1")), most+1), api.ErrMany}, {2, make([]api.Fact, most), api.ErrShape}, {1, append(slices.Repeat(list(ge("0", "1")), most-1), ge("x", "1")), api.ErrForm},
	}
	for _, x := range badFacts() {
		bad = append(bad, badFactList{2, list(x.f), x.e}, badFactList{2, list(ge("1", "1", "1"), mod("2", "0", "3", "3"), x.f, ge("x")), x.e})
	}
	return bad
}

// wrong are a target and a proof with the errors that come last.
func wrong() (api.Fact, []api.Cut) {
	return api.Fact{Op: 7}, slices.Repeat([]api.Cut{{Round: -9, Result: api.Fact{Op: 7}}}, api.MaxCuts+1)
}

func TestP7_1Check(t *testing.T) {
	m := longest()
	for _, c := range []struct {
		n    int
		hyps []api.Fact
	}{
		{0, nil}, {api.MaxDims, nil}, {0, list(ge("-1"), eq("5"), mod("2", "1"))}, {1, list(ge("4", "6"), ge("4", "6"), eq("-1", "0"), mod("7", "-9", "14"))}, {1, list(ge("-"+m, m), mod(m, m, "-"+m))}, {2, slices.Repeat(list(ge("1", "2", "3")), api.MaxPieces)}, {api.MaxDims, list(eq("0", slices.Repeat([]api.Int{m}, api.MaxDims)...))},
	} {
		want(t, "Check of "+short(c), Check(c.n, c.hyps), api.OK, 0, 0)
	}
	for _, bad := range badLists(api.MaxPieces) {
		want(t, "Check of "+short(bad), Check(bad.n, bad.facts), bad.e, 0, 0)
	}
}

// TestFirstErrors checks that the errors of facts, and then those of the target, come before all others (P7.1 and P7.2).
func TestFirstErrors(t *testing.T) {
	target, proof := wrong()
	for _, bad := range badLists(api.MaxPieces) {
		what := " of " + short(bad)
		want(t, "Verify"+what, Verify(bad.n, bad.facts, target, proof), bad.e, 0, 0)
		found, ok, e := Prove(bad.n, bad.facts, target)
		want(t, "Prove"+what, []any{len(found), ok}, []any{0, false}, e, bad.e)
		found, ok, e = Refute(bad.n, bad.facts)
		want(t, "Refute"+what, []any{len(found), ok}, []any{0, false}, e, bad.e)
		found, e = Trim(bad.n, bad.facts, target, proof)
		want(t, "Trim"+what, len(found), 0, e, bad.e)
	}
	for _, bad := range badLists(api.MaxPieces + api.MaxCuts) {
		want(t, "Step of "+short(bad), Step(bad.n, bad.facts, proof[0]), bad.e, 0, 0)
	}
	many := slices.Repeat(list(ge("1", "2", "3")), api.MaxPieces)
	for _, bad := range badFacts() {
		what := " for " + short(bad.f)
		want(t, "Verify"+what, Verify(2, many, bad.f, proof), bad.e, 0, 0)
		found, ok, e := Prove(2, many, bad.f)
		want(t, "Prove"+what, []any{len(found), ok}, []any{0, false}, e, bad.e)
		found, e = Trim(2, many, bad.f, proof)
		want(t, "Trim"+what, len(found), 0, e, bad.e)
		want(t, "Step"+what, Step(2, many, api.Cut{Terms: make([]api.Term, api.MaxPieces+1), Round: 999, Result: bad.f}), bad.e, 0, 0)
	}
}

func TestP7_1Examples(t *testing.T) {
	for _, c := range []struct {
		n     int
		facts []api.Fact
		c     api.Cut
	}{
		{1, list(ge("-3", "2")), cut("0:1/2", -1, ge("-2", "1"))},
		{1, list(ge("-2", "1"), mod("5", "0", "1")), cut("0:1", 1, ge("-5", "1"))},
		{2, list(eq("-4", "1", "1"), mod("6", "0", "1", "-1")), cut("0:1 1:1", -1, mod("6", "2", "2", "0"))},
		{1, list(ge("-1", "1"), ge("0", "-1")), cut("0:1 1:1", -1, ge("-1", "0"))},
	} {
		want(t, "Step of "+short(c), Step(c.n, c.facts, c.c), api.OK, 0, 0)
		want(t, "Verify of "+short(c), Verify(c.n, c.facts, c.c.Result, []api.Cut{c.c}), api.OK, 0, 0)
	}
}

type testStep struct {
	c  api.Cut
	ok bool
}

// checkSteps checks steps over two variables: what is expected, and that the reference expects it, too.
func checkSteps(t *testing.T, facts []api.Fact, steps []testStep) {
	t.Helper()
	for _, x := range steps {
		wanted := api.OK
		if !x.ok {
			wanted = api.ErrProof
		}
		want(t, "Step of "+short(x.c), Step(2, facts, x.c), wanted, 0, 0)
		if isRightStep(facts, x.c) != x.ok {
			t.Errorf("the reference does not expect %t for %s", x.ok, short(x.c))
		}
	}
}

func TestP7_1Bound(t *testing.T) {
	facts := list(ge("-3", "2", "0"), ge("1", "1", "1"), eq("5", "0", "2"), mod("5", "2", "1", "0"), mod("4", "1", "1", "1"), mod("5", "1", "2", "0"), eq("7", "-3", "0"), mod("3", "2", "0", "0"))
	checkSteps(t, facts, []testStep{
		{cut("0:1/2", -1, ge("-2", "1", "0")), true}, {cut("0:1/2", -1, ge("-1", "1", "0")), true}, {cut("0:1/2", -1, ge("-3", "1", "0")), false}, {cut("0:1/2", -1, ge("-2", "2", "0")), false}, {cut("0:1/2", -1, ge("-2", "1", "1")), false}, {cut("0:-1/2", -1, ge("9", "-1", "0")), false}, {cut("0:1", -1, ge("-3", "2", "0")), true}, {cut("0:1", -1, ge("-4", "2", "0")), false},
		{cut("0:1/2", 3, ge("-3", "1", "0")), true}, {cut("0:1/2", 3, ge("-2", "1", "0")), true}, {cut("0:1/2", 3, ge("-4", "1", "0")), false}, {cut("0:1/2", 4, ge("-2", "1", "0")), false}, {cut("0:1/2", 5, ge("-2", "1", "0")), false}, {cut("0:1/2", 0, ge("-2", "1", "0")), false}, {cut("0:1", 5, ge("-4", "2", "0")), true}, {cut("0:1", 5, ge("-5", "2", "0")), false},
		{cut("1:1", 4, ge("1", "1", "1")), true}, {cut("1:1", 4, ge("0", "1", "1")), false}, {cut("1:1", -1, ge("0", "1", "1")), false},
		{cut("2:1/2", -1, ge("1", "0", "1")), false}, {cut("2:1/2", -1, ge("2", "0", "1")), true}, {cut("2:-1/2", -1, ge("-3", "0", "-1")), true}, {cut("2:-1/2", -1, ge("-4", "0", "-1")), false}, {cut("1:1 2:-1/2", -1, ge("-2", "1", "0")), true}, {cut("1:1 2:-1/2", -1, ge("-3", "1", "0")), false},
		{cut("0:1/4 1:1/2 0:1/4", -1, ge("0", "1", "0")), false}, {cut("0:1/4 0:1/4", -1, ge("-2", "1", "0")), true}, {cut("0:1 1:2 6:1", -1, ge("6", "1", "2")), true}, {cut("0:1 1:2 6:1", -1, ge("5", "1", "2")), false}, {cut("0:1/2 1:0 3:0", -1, ge("-2", "1", "0")), false}, {cut("0:1/2 1:0 2:0", -1, ge("-2", "1", "0")), true}, {cut("3:1", -1, ge("2", "1", "0")), false},
		{cut("", -1, ge("0", "0", "0")), true}, {cut("", -1, ge("7", "0", "0")), true}, {cut("", -1, ge("-1", "0", "0")), false}, {cut("", -1, ge("1", "1", "0")), false}, {cut("", 7, ge("-1", "0", "0")), true}, {cut("", 7, ge("-2", "0", "0")), false}, {cut("", 3, ge("0", "0", "0")), false},
		{cut("0:1/2", -1, eq("-2", "1", "0")), false}, {cut("0:1/2", -1, mod("2", "0", "1", "0")), false}, {cut("0:1/2", 3, eq("-3", "1", "0")), false},
	})
}

func TestP7_1Equation(t *testing.T) {
	facts := list(eq("5", "4", "2"), eq("-1", "1", "0"), ge("5", "4", "2"), mod("2", "1", "1", "0"), ge("-5", "-4", "-2"), ge("-4", "-4", "-2"), ge("0", "0", "0"), mod("2", "0", "5", "2"))
	checkSteps(t, facts, []testStep{
		{cut("0:1", -1, eq("5", "4", "2")), true}, {cut("0:-1/2 1:2", -1, eq("-4", "0", "-1")), false}, {cut("0:-1/2 1:2", -1, eq("-5", "0", "-1")), false}, {cut("0:-1 1:1", -1, eq("-6", "-3", "-2")), true}, {cut("0:-1 1:1", -1, eq("6", "3", "2")), false}, {cut("0:1 1:1", -1, eq("4", "5", "2")), true}, {cut("0:1 1:1", -1, eq("3", "5", "2")), false}, {cut("0:1 1:1", -1, eq("5", "5", "2")), false}, {cut("0:1 1:1", -1, eq("4", "5", "1")), false}, {cut("0:1 1:1", 7, eq("4", "5", "2")), false},
		{cut("0:1 2:0", -1, eq("5", "4", "2")), false}, {cut("0:1 3:0", -1, eq("5", "4", "2")), false}, {cut("0:1/2 0:1/2", -1, eq("5", "4", "2")), true}, {cut("", -1, eq("0", "0", "0")), true}, {cut("", -1, eq("1", "0", "0")), false}, {cut("", 3, eq("0", "0", "0")), false}, {cut("0:0", -1, eq("0", "0", "0")), true},
		{cut("2:1 4:1", -1, eq("5", "4", "2")), true}, {cut("4:1 2:1", -1, eq("-5", "-4", "-2")), true}, {cut("4:1 2:1", -1, eq("5", "4", "2")), false}, {cut("2:1 4:1", -1, eq("5", "4", "3")), false}, {cut("2:1 4:1", -1, eq("4", "4", "2")), false}, {cut("2:1 5:1", -1, eq("5", "4", "2")), false}, {cut("2:1 4:1", 7, eq("5", "4", "2")), false}, {cut("2:1/2 4:1/2", -1, eq("5", "4", "2")), false}, {cut("2:2 4:2", -1, eq("5", "4", "2")), false}, {cut("2:1 4:1 6:1", -1, eq("5", "4", "2")), false}, {cut("2:1", -1, eq("5", "4", "2")), false}, {cut("2:1 2:-1", -1, eq("5", "4", "2")), false}, {cut("6:1 6:1", -1, eq("0", "0", "0")), true}, {cut("0:1 0:-1", -1, eq("5", "4", "2")), false}, {cut("2:1 4:1", -1, mod("2", "5", "4", "2")), false}, {cut("2:1 4:1", -1, ge("5", "4", "2")), false},
	})
}

func TestP7_1Congruence(t *testing.T) {
	facts := list(eq("-4", "1", "1"), mod("6", "0", "1", "-1"), mod("4", "3", "1", "0"), ge("0", "1", "0"), mod("6", "2", "6", "0"))
	checkSteps(t, facts, []testStep{
		{cut("0:1 1:1", -1, mod("6", "2", "2", "0")), true}, {cut("0:1 1:1", -1, mod("6", "-4", "8", "-12")), true}, {cut("0:1 1:1", -1, mod("6", "1", "2", "0")), false}, {cut("0:1 1:1", -1, mod("6", "2", "3", "0")), false}, {cut("0:1 1:1", -1, mod("6", "2", "2", "3")), false}, {cut("0:1 1:1", -1, mod("3", "5", "-1", "3")), true}, {cut("0:1 1:1", -1, mod("12", "-4", "2", "0")), false}, {cut("0:1 1:1", -1, mod("4", "0", "2", "0")), false}, {cut("0:1 1:2", -1, mod("12", "-4", "3", "-1")), true}, {cut("0:1 1:2", -1, mod("4", "0", "3", "-1")), true}, {cut("0:1 1:-2", -1, mod("4", "0", "-1", "3")), true}, {cut("0:1 1:1", 2, mod("6", "2", "2", "0")), false},
		{cut("2:3", -1, mod("12", "9", "3", "0")), true}, {cut("2:3", -1, mod("6", "3", "3", "0")), true}, {cut("2:3", -1, mod("24", "9", "3", "0")), false}, {cut("2:1/2", -1, mod("2", "1", "1", "0")), false}, {cut("0:1/2 0:1/2", -1, mod("5", "1", "1", "1")), false}, {cut("0:2", -1, mod("7", "-1", "2", "-5")), true}, {cut("0:0 3:0", -1, mod("7", "0", "0", "0")), false}, {cut("0:1 3:1", -1, mod("7", "-4", "2", "1")), false}, {cut("", -1, mod("7", "0", "14", "-7")), true}, {cut("", -1, mod("7", "0", "1", "0")), false}, {cut("", -1, mod("7", "1", "0", "0")), false}, {cut("0:0 1:0", -1, mod("2", "0", "0", "0")), true},
		{cut("1:1 2:1", -1, mod("2", "1", "0", "1")), true}, {cut("1:3 2:3", -1, mod("6", "3", "0", "3")), true}, {cut("1:1", -1, eq("0", "1", "-1")), false}, {cut("0:1", -1, mod("6", "-4", "1", "1")), true}, {cut("4:1", -1, mod("6", "2", "0", "0")), true}, {cut("4:1", -1, ge("0", "0", "0")), false},
	})
}

func TestP7_1Falsehood(t *testing.T) {
	facts := list(ge("-1", "0", "0"), ge("-7", "0", "0"), eq("3", "0", "0"), mod("5", "4", "0", "0"), ge("0", "0", "0"), eq("0", "0", "0"), mod("5", "10", "0", "0"), eq("1", "2", "0"), mod("3", "1", "3", "0"), ge("-1", "1", "0"))
	var steps []testStep
	for i := range facts {
		for _, result := range list(ge("-9", "1", "2"), eq("1", "0", "0"), mod("2", "1", "1", "4")) {
			steps = append(steps, testStep{cut(fmt.Sprint(i, ":1"), -1, result), i < 4})
			if result.Op != api.FactMod {
				steps = append(steps, testStep{cut(fmt.Sprint(i, ":2"), -1, result), false})
			}
			steps = append(steps, testStep{cut(fmt.Sprint(i, ":1"), 3, result), false}, testStep{cut(fmt.Sprint("0:1 ", i, ":1/7"), -1, result), false})
		}
	}
	checkSteps(t, facts, append(steps, testStep{cut("", -1, ge("-9", "1", "2")), false}, testStep{cut("0:-1", -1, ge("-9", "1", "2")), false}, testStep{cut("0:1/2", -1, ge("-9", "1", "2")), false}))
}

func TestP7_1StepErrors(t *testing.T) {
	facts := list(ge("-3", "2"), mod("5", "0", "1"))
	good := ge("-2", "1")
	n := api.Rat(repeat("7", api.MaxLong+1))
	for _, c := range []struct {
		c api.Cut
		e api.Errno
	}{
		{cut("0:1/2", 1, ge("-5", "1")), api.OK}, {api.Cut{Terms: make([]api.Term, api.MaxPieces+1), Round: 9, Result: good}, api.ErrMany}, {api.Cut{Terms: slices.Repeat(by("1:0"), api.MaxPieces+1), Round: -1, Result: good}, api.ErrMany}, {api.Cut{Terms: slices.Repeat(by("0:1/512"), api.MaxPieces), Round: -1, Result: good}, api.OK},
		{cut("2:x", 9, good), api.ErrNone}, {cut("-1:1", -1, good), api.ErrNone}, {api.Cut{Terms: []api.Term{{Fact: math.MaxInt, Mult: "1"}}, Round: -1, Result: good}, api.ErrNone}, {api.Cut{Terms: []api.Term{{Fact: math.MinInt, Mult: "1"}}, Round: -1, Result: good}, api.ErrNone}, {cut("0:x 2:1", 9, good), api.ErrForm}, {cut("0:1 2:1", 9, good), api.ErrNone}, {cut("0:2/4", 9, good), api.ErrForm}, {cut("0:", 9, good), api.ErrForm}, {cut("0:1/-2", -1, good), api.ErrForm}, {cut("0:-0", -1, good), api.ErrForm}, {cut("0:0/1", -1, good), api.ErrForm}, {cut("0:1/2 1:+1", -1, good), api.ErrForm},
		{api.Cut{Terms: []api.Term{{Fact: 0, Mult: n}, {Fact: 7, Mult: "1"}}, Round: 9, Result: good}, api.ErrLarge}, {api.Cut{Terms: []api.Term{{Fact: 0, Mult: "1/" + n}, {Fact: 0, Mult: "x"}}, Round: -1, Result: good}, api.ErrLarge}, {api.Cut{Terms: []api.Term{{Fact: 0, Mult: "x"}, {Fact: 0, Mult: n}}, Round: -1, Result: good}, api.ErrForm},
		{cut("0:1/2", 2, good), api.ErrNone}, {cut("0:1/2", -2, good), api.ErrNone}, {api.Cut{Terms: by("0:5"), Round: math.MinInt, Result: good}, api.ErrNone}, {api.Cut{Terms: by("0:5"), Round: math.MaxInt, Result: good}, api.ErrNone}, {cut("0:5", 1, good), api.ErrProof}, {cut("0:1/2", 0, good), api.ErrProof}, {api.Cut{Round: -1, Result: good}, api.ErrProof}, {api.Cut{Terms: by("0:1/2"), Result: good}, api.ErrProof},
	} {
		want(t, "Step of "+short(c.c), Step(1, facts, c.c), c.e, 0, 0)
	}
	want(t, "Step without facts", Step(0, nil, cut("", -1, ge("0"))), api.OK, 0, 0)
	want(t, "Step without facts", Step(0, nil, cut("0:1", -1, ge("0"))), api.ErrNone, 0, 0)
	want(t, "Step without facts", Step(0, nil, cut("", 0, ge("0"))), api.ErrNone, 0, 0)
	many := append(slices.Repeat(list(ge("0", "0")), api.MaxPieces+api.MaxCuts-1), ge("-2", "1"))
	want(t, "Step of many facts", Step(1, many, cut(fmt.Sprint(len(many)-1, ":1"), -1, good)), api.OK, 0, 0)
	want(t, "Step of many facts", Step(1, many, cut("0:1", len(many), good)), api.ErrNone, 0, 0)
}

// randomStep returns a step that is often right: the sum of some terms, or nearly.
func randomStep(random *rand.Rand, facts []api.Fact, n int) api.Cut {
	c := api.Cut{Round: -1, Result: randomFact(random, n)}
	c.Result.Op = random.Intn(3)
	c.Result.Mod = "0"
	if c.Result.Op == api.FactMod {
		c.Result.Mod = api.Int(fmt.Sprint(2 + random.Intn(5)))
	}
	for range random.Intn(4) {
		i := random.Intn(len(facts))
		if c.Result.Op == api.FactGe && facts[i].Op == api.FactMod || c.Result.Op == api.FactMod && facts[i].Op == api.FactGe {
			i = random.Intn(len(facts))
		}
		mult := []api.Rat{"1", "1", "2", "1/2", "-1", "3", "0", "2/3", "6"}[random.Intn(9)]
		c.Terms = append(c.Terms, api.Term{Fact: i, Mult: mult})
	}
	if random.Intn(5) > 0 {
		c.Result.Coef, c.Result.Const = nil, ""
		for k := range n + 1 {
			sum := new(big.Rat)
			for _, x := range c.Terms {
				sum.Add(sum, new(big.Rat).Mul(toRat(x.Mult), toRat(all(facts[x.Fact])[k])))
			}
			if x := api.Int(new(big.Int).Div(sum.Num(), sum.Denom()).String()); k < n {
				c.Result.Coef = append(c.Result.Coef, x)
			} else {
				c.Result.Const = x
			}
		}
	}
	if random.Intn(4) == 0 {
		c.Result.Const = api.Int(new(big.Int).Add(toInt(c.Result.Const), big.NewInt(int64(random.Intn(3)-1))).String())
	}
	if random.Intn(4) == 0 {
		c.Round = slices.IndexFunc(facts, func(f api.Fact) bool {
			return f.Op == api.FactMod && slices.Equal(f.Coef, c.Result.Coef)
		})
	}
	return c
}

// TestP7_1Random compares random steps with the reference, and checks that what follows from facts holds where they do (P7.3).
func TestP7_1Random(t *testing.T) {
	random := rand.New(rand.NewSource(1))
	right := map[string]int{}
	for range 60000 {
		n := random.Intn(3)
		facts := randomFacts(random, n, 1+random.Intn(5))
		if k := random.Intn(len(facts)); random.Intn(2) == 0 {
			facts = append(facts, opposite(facts[k]), api.Fact{Op: api.FactMod, Coef: facts[k].Coef, Const: small(random, 9), Mod: "5"})
		}
		c := randomStep(random, facts, n)
		wanted := api.ErrProof
		if isRightStep(facts, c) {
			wanted = api.OK
			right[fmt.Sprint(c.Result.Op, c.Round != -1)]++
			points(n, 6, func(point []int) {
				if allHold(facts, point) && !allHold(list(c.Result), point) {
					t.Fatalf("%s does not follow at %v from %s", short(c), point, short(facts))
				}
			})
		}
		if e := Step(n, facts, c); e != wanted {
			t.Fatalf("Step of %s with %s: got %d, want %d", short(c), short(facts), e, wanted)
		}
	}
	for _, kind := range []string{"0 false", "0 true", "1 false", "2 false"} {
		if right[kind] < 100 {
			t.Errorf("only %d right steps of the kind %s", right[kind], kind)
		}
	}
}

// TestP7_1Long has sums with the longest numbers, and with common denominators of more than api.MaxLong digits.
func TestP7_1Long(t *testing.T) {
	random := rand.New(rand.NewSource(2))
	for _, count := range []int{1, 3, 40, api.MaxPieces} {
		checkLong(t, random, count)
	}
	m := longest()
	facts := list(eq("-"+m, m, m), mod(m, m[1:], m, "1"))
	want(t, "Step of long numbers", Step(2, facts, cut("0:-"+string(m)+" 1:"+string(m), -1, mod(m, "0", "0", "0"))), api.OK, 0, 0)
	want(t, "Step of long numbers", Step(2, facts, cut("0:-"+string(m)+" 1:1", -1, mod(m, "-9"+api.Int(repeat("0", 99)), "0", "1"))), api.OK, 0, 0)
	want(t, "Step of long numbers", Step(2, facts, cut("0:-"+string(m)+" 1:1", -1, mod(m, "0", "0", "1"))), api.ErrProof, 0, 0)
	checkVeryLong(t, random)
}

// coprime returns the greatest numbers with api.MaxDigits digits of which no two have a common divisor. The product of api.MaxPieces of them has as many digits as it can have.
func coprime(count int) []*big.Int {
	var found []*big.Int
	product := big.NewInt(1)
	for x := toInt(longest()); len(found) < count; x = new(big.Int).Sub(x, big.NewInt(1)) {
		if new(big.Int).GCD(nil, nil, x, product).Cmp(big.NewInt(1)) == 0 {
			found, product = append(found, x), product.Mul(product, x)
		}
	}
	return found
}

// checkLong has a sum of so many terms, whose multipliers have coprime denominators.
func checkLong(t *testing.T, random *rand.Rand, count int) {
	t.Helper()
	facts := list(ge("-"+longest(), longest(), longest()))
	c := cut("0:1/"+string(longest()), -1, ge("0", "1", "1"))
	d := big.NewRat(-1, 1)
	for i, den := range coprime(count) {
		if i == 0 {
			continue
		}
		facts = append(facts, ge(long(random, api.MaxDigits-3), "0", "0"))
		mult := big.NewRat(1, 1)
		for mult.Denom().Cmp(den) != 0 {
			mult.SetFrac(new(big.Int).Abs(toInt(long(random, api.MaxDigits))), den)
		}
		d.Add(d, new(big.Rat).Mul(mult, toRat(facts[i].Const)))
		c.Terms = append(c.Terms, api.Term{Fact: i, Mult: api.Rat(mult.RatString())})
	}
	for i := range int64(3) {
		constant := new(big.Int).Sub(big.NewInt(i-1), ceil(new(big.Rat).Neg(d)))
		c.Result.Const = api.Int(constant.String())
		wanted := api.OK
		if i == 0 {
			wanted = api.ErrProof
		}
		want(t, "Step of long numbers", Step(2, facts, c), wanted, 0, 0)
	}
	c.Result = ge(c.Result.Const, "1", "2")
	want(t, "Step of long numbers", Step(2, facts, c), api.ErrProof, 0, 0)
}

// checkVeryLong has multipliers with more than api.MaxDigits digits, for which there may be ErrLarge.
func checkVeryLong(t *testing.T, random *rand.Rand) {
	t.Helper()
	facts := list(ge("-3", "2", "0"))
	half := api.Rat(repeat("7", api.MaxLong))
	c := api.Cut{Round: -1, Result: ge("-2", "1", "0"), Terms: []api.Term{{Fact: 0, Mult: "1/2"}, {Fact: 0, Mult: half}, {Fact: 0, Mult: "-" + half}}}
	if e := Step(2, facts, c); e != api.ErrProof && e != api.ErrLarge {
		t.Errorf("Step of very long numbers: got %d", e)
	}
	facts[0].Op = api.FactEq
	if e := Step(2, facts, c); e != api.OK && e != api.ErrLarge {
		t.Errorf("Step of very long numbers: got %d", e)
	}
	for len(c.Terms) < api.MaxPieces {
		den := new(big.Int).Abs(toInt(long(random, api.MaxLong)))
		c.Terms = append(c.Terms, api.Term{Fact: 0, Mult: api.Rat(new(big.Rat).SetFrac(big.NewInt(1), den).RatString())})
	}
	if e := Step(2, facts, c); e != api.ErrProof && e != api.ErrLarge {
		t.Errorf("Step of very long numbers: got %d", e)
	}
}
