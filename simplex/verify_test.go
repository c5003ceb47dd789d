package simplex

import (
	"math"
	"math/big"
	"math/rand"
	"slices"
	"testing"

	"surveyor/api"
)

func optimal(value api.Rat, point, mult []api.Rat) api.Optimum {
	return api.Optimum{Verdict: api.ProgramOptimal, Value: value, Point: point, Mult: mult}
}

func unbounded(point, ray []api.Rat) api.Optimum {
	return api.Optimum{Verdict: api.ProgramUnbounded, Point: point, Ray: ray}
}

func infeasible(mult ...api.Rat) api.Optimum {
	return api.Optimum{Verdict: api.ProgramInfeasible, Mult: mult}
}

func TestP5_1Verify(t *testing.T) {
	c := lin("0", "1", "1")
	l := append(triangle(), ge("-1", "-1", "0"))
	box := append(triangle()[:2], eq("-2", "1", "1"))
	type two = []api.Rat
	for _, x := range []struct {
		l []api.Fact
		o api.Optimum
		e api.Errno
	}{
		{l[:3], optimal("4", two{"4", "0"}, two{"0", "1", "1"}), api.OK}, {l[:3], optimal("4", two{"4", "0"}, two{"0", "1", "2"}), api.ErrProof}, {l[:3], optimal("4", two{"4", "0"}, two{"1", "1", "1"}), api.ErrProof}, {l[:3], optimal("4", two{"3", "1"}, two{"0", "1", "1"}), api.ErrProof}, {l[:3], optimal("4", two{"2", "1"}, two{"0", "1", "1"}), api.ErrProof}, {l[:3], optimal("5", two{"4", "0"}, two{"0", "1", "1"}), api.ErrProof}, {l[:3], optimal("3", two{"2", "1"}, two{"0", "1", "1"}), api.ErrProof}, {l[:3], optimal("2", two{"0", "2"}, two{"0", "-1", "1/2"}), api.ErrProof}, {l[:3], optimal("4", two{"4", "0"}, two{"0", "0", "0"}), api.ErrProof},
		{l[:2], unbounded(two{"0", "0"}, two{"1", "0"}), api.OK}, {l[:2], unbounded(two{"1/2", "7"}, two{"1/3", "2"}), api.OK}, {l[:2], unbounded(two{"-1", "0"}, two{"1", "0"}), api.ErrProof}, {l[:2], unbounded(two{"0", "0"}, two{"0", "0"}), api.ErrProof}, {l[:2], unbounded(two{"0", "0"}, two{"2", "-1"}), api.ErrProof}, {l[:2], unbounded(two{"0", "0"}, two{"-1", "-1"}), api.ErrProof}, {l[:3], unbounded(two{"0", "0"}, two{"1", "0"}), api.ErrProof}, {nil, unbounded(two{"0", "0"}, two{"-1", "2"}), api.OK}, {nil, unbounded(two{"0", "0"}, two{"1", "-1"}), api.ErrProof}, {list(eq("0", "1", "0")), unbounded(two{"0", "0"}, two{"0", "1"}), api.OK}, {list(eq("0", "1", "0")), unbounded(two{"0", "0"}, two{"1", "1"}), api.ErrProof}, {list(eq("0", "1", "0")), unbounded(two{"1", "0"}, two{"0", "1"}), api.ErrProof},
		{l, infeasible("1", "0", "0", "1"), api.OK}, {l, infeasible("2", "0", "0", "2"), api.ErrProof}, {l, infeasible("1", "0", "0", "2"), api.ErrProof}, {l, infeasible("1", "1", "0", "1"), api.ErrProof}, {l, infeasible("-1", "0", "0", "-1"), api.ErrProof}, {l[:3], infeasible("0", "0", "0"), api.ErrProof}, {nil, infeasible(), api.ErrProof}, {list(ge("-1", "0", "0")), infeasible("1"), api.OK}, {list(ge("1", "0", "0")), infeasible("-1"), api.ErrProof}, {list(eq("1", "0", "0")), infeasible("-1"), api.OK}, {list(eq("3", "0", "0")), infeasible("-1/3"), api.OK},
		{box, optimal("2", two{"1/2", "3/2"}, two{"0", "0", "-1"}), api.OK}, {box, optimal("2", two{"1/2", "1/2"}, two{"0", "0", "-1"}), api.ErrProof}, {box, optimal("2", two{"1/2", "3/2"}, two{"0", "0", "1"}), api.ErrProof},
		{l[:3], api.Optimum{Verdict: 3}, api.ErrArg}, {l[:3], api.Optimum{Verdict: -1, Value: "x"}, api.ErrArg}, {l[:3], api.Optimum{Verdict: math.MinInt}, api.ErrArg},
		{l[:3], optimal("x", two{"4"}, two{"0", "1", "1"}), api.ErrShape}, {l[:3], optimal("4", two{"4", "0", "0"}, two{"0", "1", "1"}), api.ErrShape}, {l[:3], optimal("4", two{"4", "0"}, two{"0", "1"}), api.ErrShape}, {l[:3], optimal("4", two{"4", "0"}, two{"0", "1", "1", "1"}), api.ErrShape}, {l[:3], optimal("4", nil, nil), api.ErrShape}, {l[:3], api.Optimum{Value: "4", Point: two{"4", "0"}, Ray: two{"1", "0"}, Mult: two{"0", "1", "1"}}, api.ErrShape}, {l[:3], optimal("", two{"4"}, two{"0", "1", "1"}), api.ErrShape},
		{l[:2], unbounded(two{"0", "0"}, nil), api.ErrShape}, {l[:2], unbounded(nil, two{"0", "0"}), api.ErrShape}, {l[:2], unbounded(two{"0", "0"}, two{"1"}), api.ErrShape}, {l[:2], api.Optimum{Verdict: api.ProgramUnbounded, Point: two{"0", "0"}, Ray: two{"1", "0"}, Mult: two{"0", "0"}}, api.ErrShape}, {l[:2], api.Optimum{Verdict: api.ProgramUnbounded, Value: "0", Point: two{"x", "0"}, Ray: two{"1", "0"}}, api.ErrShape},
		{l, infeasible("1", "0", "0"), api.ErrShape}, {l, infeasible(), api.ErrShape}, {l, api.Optimum{Verdict: api.ProgramInfeasible, Point: two{"x", "0"}, Mult: two{"1", "0", "0", "1"}}, api.ErrShape}, {l, api.Optimum{Verdict: api.ProgramInfeasible, Ray: two{"0", "0"}, Mult: two{"1", "0", "0", "1"}}, api.ErrShape}, {l, api.Optimum{Verdict: api.ProgramInfeasible, Value: "-1", Mult: two{"1", "0", "0", "1"}}, api.ErrShape},
	} {
		want(t, "Verify of "+short(x.o)+" with "+short(x.l), Verify(c, x.l, x.o), x.e, 0, 0)
	}
	want(t, "Verify without variables", Verify(lin("3"), list(ge("1")), optimal("3", nil, two{"0"})), api.OK, 0, 0)
	want(t, "Verify without variables", Verify(lin("3"), list(ge("1")), optimal("4", nil, two{"1"})), api.ErrProof, 0, 0)
	want(t, "Verify without variables", Verify(lin("3"), list(ge("1")), unbounded(nil, nil)), api.ErrProof, 0, 0)
	want(t, "Verify without variables", Verify(lin("3"), list(ge("-2")), infeasible("1/2")), api.OK, 0, 0)
	want(t, "Verify with a constant", Verify(lin("-7/2", "1", "1"), triangle(), optimal("1/2", two{"4", "0"}, two{"0", "1", "1"})), api.OK, 0, 0)
	want(t, "Verify with a constant", Verify(lin("-7/2", "1", "1"), triangle(), optimal("4", two{"4", "0"}, two{"0", "1", "1"})), api.ErrProof, 0, 0)
}

// TestP5_1VerifyNumbers has results with a number that is none, at each place, and behind it one with another error.
func TestP5_1VerifyNumbers(t *testing.T) {
	c := lin("0", "1", "1")
	long := api.Rat(repeat("7", api.MaxLong))
	for x, e := range map[api.Rat]api.Errno{"": api.ErrForm, "01": api.ErrForm, "2/4": api.ErrForm, "1/0": api.ErrForm, "-0": api.ErrForm, "x": api.ErrForm, long + "7": api.ErrLarge, "-" + long + "7": api.ErrLarge, "1/" + long + "7": api.ErrLarge} {
		other := map[api.Errno]api.Rat{api.ErrForm: long + "7", api.ErrLarge: "01"}[e]
		results := []api.Optimum{
			optimal("4", []api.Rat{x, other}, []api.Rat{other, "1", "1"}), optimal("4", []api.Rat{"4", x}, []api.Rat{other, "1", "1"}), optimal("4", []api.Rat{"4", "0"}, []api.Rat{x, other, "1"}), optimal("4", []api.Rat{"4", "0"}, []api.Rat{"0", "1", x}),
			unbounded([]api.Rat{x, "0"}, []api.Rat{other, "0"}), unbounded([]api.Rat{"0", "0"}, []api.Rat{"1", x}), infeasible("0", x, other),
		}
		if x != "" {
			results = append(results, optimal(x, []api.Rat{other, "0"}, []api.Rat{"0", "1", "1"}))
		} else {
			results = append(results, optimal("", []api.Rat{"4", "0"}, []api.Rat{"0", "1", "1"}))
		}
		for _, o := range results {
			want(t, "Verify of "+short(o), Verify(c, triangle(), o), e, 0, 0)
		}
		want(t, "Verify without a value", Verify(c, triangle(), optimal("", []api.Rat{"0", x}, []api.Rat{"0", "1", "1"})), e, 0, 0)
	}
	want(t, "Verify of numbers that do not fit", Verify(c, triangle(), optimal(long, []api.Rat{long, "1/" + long}, []api.Rat{"0", "1", "-1/" + long})), api.ErrProof, 0, 0)
}

// TestP5_1VerifyRandom changes right results a little.
func TestP5_1VerifyRandom(t *testing.T) {
	random := rand.New(rand.NewSource(4))
	wrong := 0
	for range 3000 {
		c, l := randomProgram(random)
		o := must(Maximize(c, l))
		change := func(list []api.Rat) {
			if len(list) > 0 && random.Intn(2) == 0 {
				x := toRat(string(list[random.Intn(len(list))]))
				list[random.Intn(len(list))] = toText(x.Add(x, big.NewRat(int64(random.Intn(3)-1), int64(1+random.Intn(2)))))
			}
		}
		change(o.Point)
		change(o.Ray)
		change(o.Mult)
		wanted := api.OK
		if !isRightResult(c, l, o) {
			wanted = api.ErrProof
			wrong++
		}
		want(t, "Verify of "+short(o)+" for "+short(c)+" with "+short(l), Verify(c, l, o), wanted, 0, 0)
	}
	if wrong < 500 || wrong > 2500 {
		t.Errorf("%d results are wrong", wrong)
	}
}

// TestP5_1VerifyLong has right results, and wrong ones, whose numbers are so long that their products and common denominators have more than api.MaxLong digits.
func TestP5_1VerifyLong(t *testing.T) {
	p := toRat(repeat("3", api.MaxLong)).Num()
	q := new(big.Int).Sub(p, big.NewInt(1)) // without a common divisor with p
	share := func(num, den *big.Int) api.Rat { return toText(new(big.Rat).SetFrac(num, den)) }
	one, minus := big.NewInt(1), big.NewInt(-1)
	twice := list(eq("0", "1", "0"), eq("0", "1", "0"), eq("0", "0", "1"), eq("0", "0", "1"), ge("-1", "0", "0"))
	for _, x := range []struct {
		o api.Optimum
		e api.Errno
	}{
		{infeasible(share(one, p), share(minus, p), share(minus, q), share(one, q), "1"), api.OK},
		{infeasible(share(p, q), share(new(big.Int).Neg(p), q), share(q, p), share(new(big.Int).Neg(q), p), "1"), api.OK},
		{infeasible(share(one, p), share(minus, p), share(minus, q), share(one, p), "1"), api.ErrProof},
		{infeasible(share(one, p), share(minus, q), "0", "0", "1"), api.ErrProof},
		{infeasible(share(one, p), share(minus, p), "0", "0", share(p, q)), api.ErrProof},
	} {
		want(t, "Verify of "+short(x.o), Verify(lin("0", "1", "1"), twice, x.o), x.e, 0, 0)
	}
	c, halfPlane := lin("0", "1", "0"), list(ge("0", "0", "1"))
	want(t, "Verify", Verify(c, halfPlane, unbounded([]api.Rat{share(minus, p), share(one, q)}, []api.Rat{share(one, p), share(p, q)})), api.OK, 0, 0)
	want(t, "Verify", Verify(c, halfPlane, unbounded([]api.Rat{share(minus, p), share(minus, q)}, []api.Rat{share(one, p), share(p, q)})), api.ErrProof, 0, 0)
	want(t, "Verify", Verify(c, halfPlane, unbounded([]api.Rat{share(minus, p), share(one, q)}, []api.Rat{share(one, p), share(minus, q)})), api.ErrProof, 0, 0)
	line := list(eq("0", "0", "1"), eq("0", "0", "1"))
	want(t, "Verify", Verify(lin("0", "0", "1"), line, optimal("0", []api.Rat{share(p, q), "0"}, []api.Rat{share(q, p), share(new(big.Int).Neg(new(big.Int).Add(p, q)), p)})), api.OK, 0, 0)
	want(t, "Verify", Verify(lin("0", "0", "1"), line, optimal("0", []api.Rat{share(p, q), share(one, p)}, []api.Rat{"0", "-1"})), api.ErrProof, 0, 0)
	want(t, "Verify", Verify(lin("0", "0", "1"), line, optimal(share(one, p), []api.Rat{share(p, q), "0"}, []api.Rat{"0", "-1"})), api.ErrProof, 0, 0)
}

// TestP5_1VerifyMany has as many multipliers, with as long denominators, as there can be.
func TestP5_1VerifyMany(t *testing.T) {
	l := slices.Repeat(list(eq("0", "3", "5")), api.MaxFacts-1)
	mult := []api.Rat{}
	den := toRat("1" + repeat("0", api.MaxLong-1)).Num()
	for range len(l) / 3 {
		den.Add(den, big.NewInt(2))
		x := new(big.Rat).SetFrac(big.NewInt(1), den)
		mult = append(mult, toText(x), toText(new(big.Rat).Neg(x)), "0")
	}
	l, mult = append(l, ge("-1", "0", "0")), append(mult, "1")
	want(t, "Verify", Verify(lin("0", "1", "1"), l, infeasible(mult...)), api.OK, 0, 0)
	mult[0] = toText(new(big.Rat).SetFrac(big.NewInt(1), den.Add(den, big.NewInt(2))))
	want(t, "Verify", Verify(lin("0", "1", "1"), l, infeasible(mult...)), api.ErrProof, 0, 0)
}
