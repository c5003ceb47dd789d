package cuts

import (
	"fmt"
	"math/big"
	"math/rand"
	"slices"
	"testing"

	"surveyor/api"
	"surveyor/simplex"
)

// checkProve checks that Prove finds a proof exactly if it is expected, and that the proof is one.
func checkProve(t *testing.T, n int, hyps []api.Fact, target api.Fact, expected bool) []api.Cut {
	t.Helper()
	proof, ok, e := Prove(n, hyps, target)
	if e != api.OK || ok != expected || !ok && len(proof) > 0 {
		t.Fatalf("Prove of %s from %s: got %s, %t and %d", short(target), short(hyps), short(proof), ok, e)
	}
	if f := Verify(n, hyps, target, proof); ok && (f != api.OK || !isProof(hyps, target, proof)) {
		t.Fatalf("Prove of %s from %s: %s is no proof: %d", short(target), short(hyps), short(proof), f)
	}
	return proof
}

// checkRefute does the same for Refute.
func checkRefute(t *testing.T, n int, hyps []api.Fact, expected bool) {
	t.Helper()
	falsehood := ge("-1", slices.Repeat([]api.Int{"0"}, n)...)
	proof := checkProve(t, n, hyps, falsehood, expected)
	refuted, ok, e := Refute(n, hyps)
	want(t, "Refute of "+short(hyps), []any{len(refuted), ok}, []any{len(proof), expected}, e, api.OK)
	if ok && !isProof(hyps, falsehood, refuted) {
		t.Fatalf("Refute of %s: %s is no proof", short(hyps), short(refuted))
	}
}

type testTarget struct {
	target api.Fact
	ok     bool
}

// checkTargets checks targets over two variables: what is expected, and that the reference expects it, too.
func checkTargets(t *testing.T, hyps []api.Fact, targets []testTarget) {
	t.Helper()
	for _, x := range targets {
		checkProve(t, 2, hyps, x.target, x.ok)
		if isProved(t, 2, hyps, x.target) != x.ok {
			t.Errorf("the reference does not expect %t for %s", x.ok, short(x.target))
		}
	}
}

func TestP7_2Examples(t *testing.T) {
	for _, x := range []struct {
		n      int
		hyps   []api.Fact
		target api.Fact
	}{
		{1, list(ge("-3", "2")), ge("-2", "1")},
		{1, list(ge("-2", "1"), mod("5", "0", "1")), ge("-5", "1")},
		{2, list(eq("-4", "1", "1"), mod("6", "0", "1", "-1")), mod("6", "2", "2", "0")},
		{1, list(ge("-1", "1"), ge("0", "-1")), ge("-1", "0")},
	} {
		if proof := checkProve(t, x.n, x.hyps, x.target, true); len(proof) != 1 {
			t.Errorf("a proof of %s with %d steps", short(x.target), len(proof))
		}
	}
	checkRefute(t, 1, list(ge("-1", "1"), ge("0", "-1")), true)
}

func TestP7_2Bounds(t *testing.T) {
	hyps := list(ge("-3", "2", "0"), mod("5", "0", "1", "0"), mod("7", "0", "1", "0"), ge("4", "-1", "-2"), eq("-1", "3", "-1"), mod("3", "1", "2", "0"))
	checkTargets(t, hyps[:1], []testTarget{
		{ge("-2", "1", "0"), true}, {ge("-3", "1", "0"), false}, {ge("-1", "1", "0"), true}, {ge("-3", "2", "0"), true}, {ge("-4", "2", "0"), false}, {ge("-8", "5", "0"), true}, {ge("-9", "5", "0"), false}, {ge("9", "-1", "0"), false}, {ge("9", "0", "1"), false}, {ge("9", "1", "1"), false}, {ge("0", "0", "0"), true}, {ge("5", "0", "0"), true}, {ge("-1", "0", "0"), false},
	})
	checkTargets(t, hyps[:3], []testTarget{
		{ge("-5", "1", "0"), true}, {ge("-6", "1", "0"), false}, {ge("-4", "1", "0"), true}, {ge("-7", "1", "0"), false}, {ge("-4", "2", "0"), false}, {ge("-3", "2", "0"), true}, {mod("35", "0", "1", "0"), true}, {mod("70", "0", "2", "0"), true}, {mod("70", "0", "1", "0"), false},
	})
	// The maximum of x + 2 y is 4, with y = 3 x - 1: x is at most 6/7, and at least 3/2.
	checkTargets(t, hyps, []testTarget{{ge("-100", "1", "1"), true}, {eq("-9", "8", "7"), true}, {mod("2", "1", "2", "2"), true}})
	checkTargets(t, hyps[3:5], []testTarget{
		{ge("0", "-1", "0"), true}, {ge("-1", "-1", "0"), false}, {ge("1", "0", "-1"), true}, {ge("0", "0", "-1"), false}, {ge("1", "-3", "1"), true}, {ge("-1", "3", "-1"), true}, {ge("-2", "3", "-1"), false}, {eq("-1", "3", "-1"), true}, {eq("1", "-3", "1"), true}, {eq("-2", "6", "-2"), true}, {eq("0", "3", "-1"), false}, {eq("0", "1", "0"), false},
	})
	checkTargets(t, hyps[3:], []testTarget{{ge("0", "-1", "0"), true}, {ge("1", "-2", "0"), true}, {ge("0", "-2", "0"), false}, {ge("1", "2", "0"), false}})
	checkTargets(t, list(mod("4", "1", "0", "0")), []testTarget{{ge("-3", "0", "0"), true}, {ge("-4", "0", "0"), false}, {eq("0", "0", "0"), true}, {eq("1", "0", "0"), true}, {eq("4", "0", "0"), false}, {mod("4", "2", "0", "0"), true}, {mod("8", "2", "0", "0"), true}, {mod("8", "3", "0", "0"), false}})
}

func TestP7_2Equations(t *testing.T) {
	hyps := list(ge("-3", "2", "0"), ge("5", "-2", "0"), ge("1", "1", "1"), ge("-1", "-1", "-1"), mod("3", "1", "1", "1"), mod("4", "0", "0", "1"))
	checkTargets(t, hyps, []testTarget{
		{eq("-2", "1", "0"), true}, {eq("2", "-1", "0"), true}, {eq("-1", "1", "0"), false}, {eq("-3", "1", "0"), false}, {eq("-4", "2", "0"), false}, {eq("1", "1", "1"), true}, {eq("-1", "-1", "-1"), true}, {eq("2", "2", "2"), true}, {eq("0", "0", "0"), true}, {eq("1", "0", "0"), false},
		{ge("0", "0", "1"), true}, {ge("-1", "0", "1"), false}, {ge("-3", "0", "-1"), true}, {ge("-4", "0", "-1"), false}, {eq("3", "0", "1"), true}, {eq("0", "0", "1"), true}, {eq("4", "0", "1"), false}, {eq("-1", "0", "1"), false}, {mod("5", "1", "1", "1"), false},
	})
	// The bound of y is rounded by the congruence of y, that of -y by the one of -y: there is none but the second one.
	further := append(slices.Clone(hyps), mod("2", "0", "0", "-1"))
	checkTargets(t, further, []testTarget{{ge("-4", "0", "-1"), true}, {ge("-5", "0", "-1"), false}, {eq("4", "0", "1"), true}, {eq("5", "0", "1"), false}})
	// x + y is from 4/3 to 14/3, and 4 modulo 5; so it is 4.
	checkTargets(t, list(ge("-4", "3", "3"), ge("14", "-3", "-3"), mod("5", "1", "1", "1"), mod("5", "4", "-1", "-1")), []testTarget{{eq("-4", "1", "1"), true}, {eq("4", "-1", "-1"), true}, {eq("-3", "1", "1"), false}, {mod("10", "6", "1", "1"), false}, {mod("5", "6", "6", "1"), true}})
	checkTargets(t, list(ge("-4", "3", "3"), ge("14", "-3", "-3"), mod("5", "1", "1", "1")), []testTarget{{ge("-4", "1", "1"), true}, {ge("4", "-1", "-1"), true}, {eq("-4", "1", "1"), true}})
}

func TestP7_2Congruences(t *testing.T) {
	hyps := list(eq("-4", "1", "1"), mod("6", "0", "1", "-1"), mod("4", "3", "0", "2"), ge("-4", "1", "0"))
	checkTargets(t, hyps, []testTarget{
		{mod("6", "2", "2", "0"), true}, {mod("3", "1", "1", "0"), true}, {mod("6", "2", "0", "2"), true}, {mod("6", "3", "2", "0"), false}, {mod("12", "2", "2", "0"), false}, {mod("12", "4", "4", "0"), true}, {mod("6", "0", "1", "-1"), true}, {mod("6", "6", "7", "5"), true}, {mod("3", "0", "1", "2"), true}, {mod("12", "0", "2", "-2"), true}, {mod("12", "0", "1", "-1"), false}, {mod("5", "1", "1", "1"), true}, {mod("5", "1", "6", "-4"), true}, {mod("5", "0", "1", "0"), false}, {mod("8", "6", "0", "4"), true}, {mod("8", "3", "0", "2"), false}, {mod("2", "1", "0", "0"), true}, {mod("9", "0", "9", "-18"), true}, {mod("2", "0", "1", "0"), false}, {mod("2", "1", "1", "0"), false}, {mod("2", "1", "1", "1"), true},
	})
	checkTargets(t, nil, []testTarget{{mod("4", "8", "-4", "0"), true}, {mod("4", "1", "4", "0"), false}, {mod("4", "0", "1", "0"), false}})
	checkTargets(t, list(ge("-1", "1", "0"), ge("0", "-1", "0")), []testTarget{{mod("9", "1", "2", "3"), true}, {ge("-99", "2", "3"), true}, {eq("-99", "2", "3"), true}, {ge("-1", "0", "0"), true}})
	checkTargets(t, list(eq("2", "0", "1"), eq("3", "0", "1")), []testTarget{{mod("9", "1", "2", "3"), true}, {eq("-99", "2", "3"), true}, {ge("-1", "0", "0"), true}})
	// No rational point satisfies 0 = 1; integer points alone refute 2 x = 1, which is not refuted, but 2 x is then 1 modulo 2.
	checkTargets(t, list(eq("-1", "0", "0")), []testTarget{{mod("2", "1", "0", "0"), true}, {ge("-2", "0", "0"), true}})
	checkTargets(t, list(eq("-1", "2", "0")), []testTarget{{mod("2", "1", "0", "0"), true}, {ge("-1", "0", "0"), false}, {mod("3", "1", "1", "0"), true}, {ge("-1", "1", "0"), true}, {ge("0", "-1", "0"), true}})
}

func TestP7_2Refute(t *testing.T) {
	for _, x := range []struct {
		n    int
		hyps []api.Fact
		ok   bool
	}{
		{0, nil, false}, {0, list(ge("-1")), true}, {0, list(ge("-3"), ge("5")), true}, {0, list(eq("-3")), true}, {0, list(eq("0"), ge("0")), false}, {0, list(mod("3", "1")), true}, {0, list(mod("3", "6")), false}, {0, list(mod("3", "6"), mod("3", "1")), false}, {api.MaxDims, nil, false},
		{1, list(ge("-1", "1"), ge("1", "-1")), false}, {1, list(ge("-2", "2"), ge("1", "-1"), eq("0", "1")), true}, {1, list(ge("-1", "3"), ge("2", "-3")), false}, {1, list(mod("2", "0", "1"), mod("2", "1", "1")), false}, {1, list(mod("2", "1", "2")), false}, {1, list(mod("2", "1", "0")), true}, {2, list(eq("1", "1", "1"), eq("0", "1", "1")), true},
	} {
		checkRefute(t, x.n, x.hyps, x.ok)
	}
}

func TestP7_2Errors(t *testing.T) {
	many := slices.Repeat(list(ge("1", "2", "3")), api.MaxFacts)
	checkProve(t, 2, many, ge("1", "2", "3"), true)
	checkRefute(t, 2, many, false)
	mixed := append(slices.Repeat(list(mod("2", "0", "1", "1")), api.MaxFacts-1), eq("-1", "1", "-1"))
	checkProve(t, 2, mixed, mod("2", "0", "1", "1"), true)
	checkProve(t, 2, mixed, mod("4", "3", "1", "-1"), true)
	for _, more := range list(many[0], mod("2", "1", "1", "1")) {
		for _, target := range list(ge("1", "2", "3"), eq("1", "2", "3"), mod("2", "0", "2", "2")) {
			proof, ok, e := Prove(2, append(many, more), target)
			want(t, "Prove", []any{len(proof), ok}, []any{0, false}, e, api.ErrMany)
			proof, ok, e = Prove(2, append(slices.Repeat(list(more), api.MaxPieces-1), many[0]), target)
			want(t, "Prove", []any{len(proof), ok}, []any{0, false}, e, api.ErrMany)
		}
		proof, ok, e := Refute(2, append(many, more))
		want(t, "Refute", []any{len(proof), ok}, []any{0, false}, e, api.ErrMany)
	}
}

// randomTarget returns a fact that is often proved: one of some facts, or their sum, or nearly.
func randomTarget(random *rand.Rand, hyps []api.Fact, n int) api.Fact {
	target := randomFact(random, n)
	if len(hyps) == 0 || random.Intn(4) == 0 {
		return target
	}
	f, g := hyps[random.Intn(len(hyps))], hyps[random.Intn(len(hyps))]
	for i := range n {
		target.Coef[i] = api.Int(new(big.Int).Add(toInt(f.Coef[i]), toInt(g.Coef[i])).String())
		if random.Intn(2) == 0 {
			target.Coef[i] = f.Coef[i]
		}
	}
	constant := new(big.Int).Add(toInt(f.Const), big.NewInt(int64(random.Intn(7)-2)))
	if random.Intn(2) == 0 {
		constant.Add(constant, toInt(g.Const))
	}
	target.Const = api.Int(constant.String())
	return target
}

// TestP7_2Random compares the search with the reference.
func TestP7_2Random(t *testing.T) {
	random := rand.New(rand.NewSource(4))
	count := map[string]int{}
	for range 20000 {
		n := random.Intn(4)
		hyps := randomFacts(random, n, random.Intn(6))
		if n > 0 && random.Intn(2) == 0 {
			hyps = append(hyps, mod(api.Int(fmt.Sprint(2+random.Intn(6))), small(random, 9), append([]api.Int{"1"}, slices.Repeat([]api.Int{"0"}, n-1)...)...), ge(small(random, 9), append([]api.Int{"2"}, slices.Repeat([]api.Int{"0"}, n-1)...)...))
		}
		target := randomTarget(random, hyps, n)
		expected := isProved(t, n, hyps, target)
		count[fmt.Sprint(target.Op, expected)]++
		checkProve(t, n, hyps, target, expected)
		checkRefute(t, n, hyps, isProved(t, n, hyps, ge("-1", slices.Repeat([]api.Int{"0"}, n)...)))
	}
	for _, kind := range []string{"0 true", "0 false", "1 true", "1 false", "2 true", "2 false"} {
		if count[kind] < 200 {
			t.Errorf("only %d targets of the kind %s", count[kind], kind)
		}
	}
}

// TestP7_3Search checks that what is proved remains so with further hypotheses, and holds where the hypotheses do.
func TestP7_3Search(t *testing.T) {
	random := rand.New(rand.NewSource(5))
	for range 3000 {
		n := 1 + random.Intn(2)
		hyps := randomFacts(random, n, 1+random.Intn(5))
		target := randomTarget(random, hyps, n)
		_, ok, e := Prove(n, hyps, target)
		if e != api.OK || !ok {
			continue
		}
		points(n, 6, func(point []int) {
			if allHold(hyps, point) && !allHold(list(target), point) {
				t.Fatalf("%s does not hold at %v, but follows from %s", short(target), point, short(hyps))
			}
		})
		checkProve(t, n, append(hyps, randomFacts(random, n, random.Intn(5))...), target, true)
	}
}

// isContradiction reports whether a congruence has no variables and does not hold: then the fifth rule is for more than combinations.
func isContradiction(f api.Fact) bool {
	return f.Op == api.FactMod && isVain(f) && !holdsFor(f, toInt(f.Const))
}

// TestP7_3Combinations checks that combinations of hypotheses, rounded as the first rule says, are proved by search.
func TestP7_3Combinations(t *testing.T) {
	random := rand.New(rand.NewSource(6))
	proved := map[int]int{}
	for range 30000 {
		n := random.Intn(3)
		hyps := randomFacts(random, n, 1+random.Intn(4))
		if k := random.Intn(len(hyps)); random.Intn(2) == 0 {
			hyps = append(hyps, api.Fact{Op: api.FactMod, Coef: hyps[k].Coef, Const: small(random, 9), Mod: "5"})
		}
		if c := randomStep(random, hyps, n); isRightStep(hyps, c) && !slices.ContainsFunc(hyps, isContradiction) {
			proved[c.Result.Op]++
			checkProve(t, n, hyps, c.Result, true)
		}
	}
	for op := range 3 {
		if proved[op] < 100 {
			t.Errorf("only %d combinations of the kind %d", proved[op], op)
		}
	}
}

// sum returns the sum of multiples of facts by integers, with the kind and the modulus of another one, modulo this if it has one.
func sum(like api.Fact, facts []api.Fact, mult []*big.Int) api.Fact {
	result := api.Fact{Op: like.Op, Mod: like.Mod}
	for i := range len(like.Coef) + 1 {
		total := new(big.Int)
		for k, f := range facts {
			total.Add(total, new(big.Int).Mul(mult[k], toInt(all(f)[i])))
		}
		if like.Op == api.FactMod {
			total.Mod(total, toInt(like.Mod))
		}
		if x := api.Int(total.String()); i < len(like.Coef) {
			result.Coef = append(result.Coef, x)
		} else {
			result.Const = x
		}
	}
	return result
}

func longFact(random *rand.Rand, n, digits int) api.Fact {
	f := ge(long(random, digits))
	for range n {
		f.Coef = append(f.Coef, long(random, digits))
	}
	return f
}

// longHypotheses returns hypotheses, and multipliers with which their sum is known modulo a modulus.
func longHypotheses(random *rand.Rand, modulus api.Int, count int) (hyps []api.Fact, mult []*big.Int) {
	for i := range count {
		f := longFact(random, api.MaxDims, api.MaxDigits)
		m := toInt(long(random, api.MaxDigits))
		switch {
		case i < 3:
			f.Op = api.FactEq
		default:
			f.Op, f.Mod = api.FactMod, []api.Int{modulus, "6", "1024", longest(), "1000"}[random.Intn(5)]
			divisor := new(big.Int).GCD(nil, nil, toInt(f.Mod), toInt(modulus))
			m.Mul(m, divisor.Div(toInt(modulus), divisor))
		}
		hyps, mult = append(hyps, f), append(mult, m)
	}
	return hyps, mult
}

// TestP7_2LongCongruences has lattices with the greatest number of variables and hypotheses, and the longest numbers.
func TestP7_2LongCongruences(t *testing.T) {
	random := rand.New(rand.NewSource(7))
	power := new(big.Int).Exp(big.NewInt(2), big.NewInt(330), nil)
	for _, modulus := range []api.Int{longest(), api.Int(power.String()), "1" + api.Int(repeat("0", 99)), "6"} {
		for _, count := range []int{4, 20, api.MaxFacts} {
			target := longFact(random, api.MaxDims, api.MaxDigits)
			target.Op, target.Mod = api.FactMod, modulus
			hyps, mult := longHypotheses(random, modulus, count)
			found := sum(target, hyps, mult)
			if proof := checkProve(t, api.MaxDims, hyps, found, true); len(proof) != 1 {
				t.Errorf("a proof with %d steps", len(proof))
			}
			if count <= 20 {
				checkProve(t, api.MaxDims, hyps, target, false)
				found.Const = api.Int(new(big.Int).Add(toInt(found.Const), big.NewInt(1)).String())
				checkProve(t, api.MaxDims, hyps, found, false)
			}
		}
	}
}

// TestP7_2LongBounds has linear programs whose results have far more than api.MaxDigits digits: the only solution of as many equations as unknowns, and the refutation of one more.
func TestP7_2LongBounds(t *testing.T) {
	random := rand.New(rand.NewSource(8))
	for _, size := range [][2]int{{1, 100}, {4, 100}, {9, 100}, {16, 60}} {
		n, digits := size[0], size[1]
		var hyps []api.Fact
		for range n {
			f := longFact(random, n, digits)
			f.Op = api.FactEq
			hyps = append(hyps, f)
		}
		target := ge("0", append([]api.Int{"1"}, slices.Repeat([]api.Int{"0"}, n-1)...)...)
		value, _, e := simplex.Bounds(api.Linear{Coef: append([]api.Rat{"1"}, slices.Repeat([]api.Rat{"0"}, n-1)...), Const: "0"}, hyps)
		if e != api.OK || len(value) < n*digits {
			t.Fatalf("Bounds: got %s and %d", value, e)
		}
		bound := ceil(toRat(value))
		target.Const = api.Int(new(big.Int).Neg(bound).String())
		checkProve(t, n, hyps, target, true)
		target.Const = api.Int(new(big.Int).Not(bound).String())
		checkProve(t, n, hyps, target, false)
		target.Op = api.FactEq
		checkProve(t, n, hyps, target, false)
		contradiction := longFact(random, n, digits)
		contradiction.Op = api.FactEq
		hyps = append(hyps, contradiction)
		checkProve(t, n, hyps, target, true)
		checkProve(t, n, hyps, mod("2", "1", target.Coef...), true)
		checkRefute(t, n, hyps, true)
	}
}
