package congruence

import (
	"fmt"
	"math/big"
	"math/rand"
	"slices"
	"strings"
	"testing"

	"surveyor/api"
)

func TestP22_1Check(t *testing.T) {
	for i, c := range []api.Congruence{empty, top, only("0"), only("-5"), only("7"), only(nines), only("-" + nines), modulo("0", "2"), modulo("1", "2"), modulo("9", "10"), modulo("0", nines), modulo(nines[:99]+"8", nines)} {
		want(t, fmt.Sprint("Check ", i), 0, 0, Check(c), api.OK)
	}
	for i, c := range faulty {
		want(t, fmt.Sprint("Check ", i), 0, 0, Check(c.c), c.e)
	}
	want(t, "Top", Top(), top, 0, 0)
}

func TestP22_1Make(t *testing.T) {
	for m := -6; m <= 6; m++ {
		for r := -20; r <= 20; r++ {
			c, e := Make(text(m), text(r))
			list := []int{r - m, r, r + m}
			want(t, fmt.Sprint("Make ", m, " ", r), c, least(list), e, api.OK)
		}
	}
	for _, x := range []struct {
		m, r api.Int
		c    api.Congruence
	}{
		{"0", nines, only(nines)}, {"0", "-" + nines, only("-" + nines)}, {nines, "-1", modulo(nines[:99]+"8", nines)}, {"-" + nines, "1", modulo("1", nines)}, {nines, nines, modulo("0", nines)},
		// What counts is the number of digits of the result.
		{"0", power, top}, {"0", "-" + power, top}, {power, "0", top}, {"-" + power, "5", top}, {"0", longest, top}, {longest, longest, top}, {"10", longest, modulo("9", "10")}, {"-10", "-" + longest, modulo("1", "10")}, {nines, power, modulo("1", nines)}, {"1", longest, top},
	} {
		c, e := Make(x.m, x.r)
		want(t, fmt.Sprint("Make ", x.m, " ", x.r), c, x.c, e, api.OK)
	}
	for _, x := range malformed {
		for _, other := range []api.Int{"0", huge, "x", tooLong} {
			c, e := Make(x.a, other)
			want(t, fmt.Sprint("Make ", x.a, " ", other), c, zero, e, x.e)
		}
		for _, other := range []api.Int{"0", "-3", huge, longest} {
			c, e := Make(other, x.a)
			want(t, fmt.Sprint("Make ", other, " ", x.a), c, zero, e, x.e)
		}
	}
}

func TestP22_1Of(t *testing.T) {
	for _, a := range edges {
		c, e := Of(a)
		want(t, fmt.Sprint("Of ", a), c, only(a), e, api.OK)
	}
	for _, a := range []api.Int{power, "-" + power, huge, longest, "-" + longest} {
		c, e := Of(a)
		want(t, fmt.Sprint("Of ", a), c, top, e, api.OK)
	}
	for _, x := range malformed {
		c, e := Of(x.a)
		want(t, fmt.Sprint("Of ", x.a), c, zero, e, x.e)
	}
}

func TestP22_1Holds(t *testing.T) {
	for _, c := range smallClasses(6) {
		for a := -20; a <= 20; a++ {
			holds, e := Holds(c, text(a))
			want(t, fmt.Sprint("Holds ", c, " ", a), holds, isSmall(c, a), e, api.OK)
		}
		for _, x := range malformed {
			holds, e := Holds(c, x.a)
			want(t, fmt.Sprint("Holds ", c, " ", x.a), holds, false, e, x.e)
		}
	}
	for i, x := range faulty {
		for _, a := range []api.Int{"0", "x", tooLong} {
			holds, e := Holds(x.c, a)
			want(t, fmt.Sprint("Holds ", i, " ", a), holds, false, e, x.e)
		}
	}
	for i, x := range []struct {
		c     api.Congruence
		a     api.Int
		holds bool
	}{
		{modulo("9", "10"), longest, true}, {modulo("1", "10"), "-" + longest, true}, {modulo("9", "10"), "-" + longest, false}, {modulo("0", nines), longest[:4000], true}, {modulo("1", nines), power, true}, {only(nines), nines, true}, {only(nines), huge, false}, {only("9"), longest, false}, {top, longest, true}, {top, "-" + longest, true}, {empty, longest, false},
	} {
		holds, e := Holds(x.c, x.a)
		want(t, fmt.Sprint("Holds ", i), holds, x.holds, e, api.OK)
	}
}

// TestP22Small compares the functions of two classes with their results for small integers (P22.1, P22.2).
func TestP22Small(t *testing.T) {
	list := smallClasses(7)
	for _, c := range list {
		negated, e := Neg(c)
		want(t, fmt.Sprint("Neg of ", c), negated, least(all(members(c, 30), []int{-1}, func(a, b int) int { return a * b })), e, api.OK)
		for _, d := range list {
			what := fmt.Sprint(" of ", c, " and ", d)
			near, others := members(c, 21), members(d, 21)
			results := map[string][]int{
				"Join": append(slices.Clone(near), others...),
				"Meet": slices.DeleteFunc(members(c, 100), func(a int) bool { return !isSmall(d, a) }),
				"Add":  all(near, others, func(a, b int) int { return a + b }),
				"Sub":  all(near, others, func(a, b int) int { return a - b }),
				"Mul":  all(near, others, func(a, b int) int { return a * b }),
			}
			for i, o := range binary {
				got, e := o.call(c, d)
				want(t, o.name+what, got, reference(i, c, d), e, api.OK)
				if list, listed := results[o.name]; listed {
					want(t, o.name+what, got, least(list), 0, 0)
				}
			}
			isPart := !slices.ContainsFunc(near, func(a int) bool { return !isSmall(d, a) })
			leq, e := Leq(c, d)
			want(t, "Leq"+what, leq, isPart, e, api.OK)
		}
	}
}

// TestP22Long compares the functions of two classes with integers up to the limits (P22.1, P22.2).
func TestP22Long(t *testing.T) {
	r := rand.New(rand.NewSource(1))
	counts := map[string]int{}
	for range 20000 {
		c, d := randomClass(r), randomClass(r)
		if r.Intn(3) == 0 && !c.Empty { // so that the classes have something in common
			d = clippedClass(randomMember(r, c), parse(randomInt(r)), parse(c.Mod))
		}
		if r.Intn(6) == 0 && !c.Empty { // so that d often divides the Mod of c
			d = clippedClass(new(big.Int).GCD(nil, nil, parse(c.Mod), big.NewInt(1<<62)))
		}
		what := fmt.Sprint(" of ", c, " and ", d)
		for i, o := range binary {
			got, e := o.call(c, d)
			want(t, o.name+what, got, reference(i, c, d), e, api.OK)
			if !got.Empty && got != top {
				counts[o.name]++
			}
		}
		negated, e := Neg(c)
		if c.Empty {
			want(t, "Neg"+what, negated, empty, e, api.OK)
		} else {
			want(t, "Neg"+what, negated, clippedClass(new(big.Int).Neg(parse(c.Rem)), parse(c.Mod)), e, api.OK)
		}
		isPart := c.Empty || !d.Empty && clippedClass(parse(d.Rem), parse(d.Mod), parse(c.Mod), less(parse(c.Rem), parse(d.Rem))) == d
		leq, e := Leq(c, d)
		want(t, "Leq"+what, leq, isPart, e, api.OK)
		if leq {
			counts["Leq"]++
		}
	}
	for _, name := range strings.Fields("Leq Join Meet Add Sub Mul Quo Rem") {
		if counts[name] < 1000 {
			t.Errorf("only %d results of %s", counts[name], name)
		}
	}
}

// TestP22Clipping has results with the most digits, and with more (P22.1, P22.2).
func TestP22Clipping(t *testing.T) {
	root, eight := power[:51], nines[:99]+"8"
	for i, x := range []struct {
		call    func(c, d api.Congruence) (api.Congruence, api.Errno)
		c, d, w api.Congruence
	}{
		{Join, only(nines), only("0"), modulo("0", nines)}, {Join, only(nines), only("-1"), top}, {Join, only(nines), only("1"), modulo("1", eight)}, {Join, only("-" + nines), only(nines), top}, {Join, only(nines), only(nines), only(nines)},
		{Meet, modulo("0", root), modulo("0", root[:50]), modulo("0", root)}, {Meet, modulo("0", root), modulo("1", root[:50]+"1"), top}, {Meet, modulo("1", nines), modulo("1", eight), top}, {Meet, modulo("0", power[:51]), modulo("0", "3"), modulo("0", "3"+power[1:51])}, {Meet, modulo("0", nines), only(nines), only(nines)}, {Meet, modulo("0", nines), top, modulo("0", nines)}, {Meet, modulo("1", nines), modulo("0", "9"), empty}, {Meet, modulo("0", nines), modulo("0", "2"), top},
		{Add, only(nines), only("1"), top}, {Add, only(eight), only("1"), only(nines)}, {Add, modulo("0", nines), only(nines), modulo("0", nines)}, {Add, only("-" + nines), only("-1"), top}, {Sub, only("-" + nines), only("1"), top}, {Sub, only("-" + eight), only("1"), only("-" + nines)},
		{Mul, only(root), only(root), top}, {Mul, only(root), only(root[:50]), only(power[:100])}, {Mul, modulo("0", root), modulo("0", root), top}, {Mul, modulo("1", root), modulo("1", root), modulo("1", root)}, {Mul, only(nines), only("0"), only("0")}, {Mul, top, only("0"), only("0")}, {Mul, modulo("0", nines), only("2"), top}, {Mul, modulo("0", nines), only("-1"), modulo("0", nines)},
		{Quo, only(nines), only("-1"), only("-" + nines)}, {Quo, modulo(eight, nines), only("-" + nines), top}, {Quo, only("-1"), only(nines), only("-1")},
		{Rem, only("-1"), only(nines), only(eight)}, {Rem, only(nines), modulo("0", nines), modulo("0", nines)},
	} {
		got, e := x.call(x.c, x.d)
		want(t, fmt.Sprint("clipping ", i), got, x.w, e, api.OK)
	}
}

func TestP22Examples(t *testing.T) {
	for i, x := range []struct {
		call    func(c, d api.Congruence) (api.Congruence, api.Errno)
		c, d, w api.Congruence
	}{
		{Meet, modulo("2", "6"), modulo("5", "9"), modulo("14", "18")}, {Meet, modulo("0", "4"), modulo("1", "2"), empty}, {Join, only("3"), only("11"), modulo("3", "8")},
		{Mul, modulo("1", "2"), modulo("2", "4"), modulo("2", "4")}, {Add, modulo("1", "2"), modulo("2", "4"), modulo("1", "2")},
		{Quo, modulo("4", "12"), only("4"), modulo("1", "3")}, {Quo, modulo("4", "12"), only("5"), top}, {Rem, modulo("4", "12"), only("6"), only("4")}, {Rem, modulo("4", "12"), only("8"), modulo("0", "4")},
		{Quo, modulo("4", "12"), only("-4"), modulo("2", "3")}, {Quo, modulo("4", "12"), only("0"), empty}, {Quo, only("7"), only("-2"), only("-4")}, {Quo, only("0"), modulo("0", "2"), only("0")}, {Quo, only("0"), top, only("0")}, {Quo, only("6"), modulo("0", "2"), top}, {Quo, only("0"), empty, empty}, {Quo, empty, only("0"), empty},
		{Rem, modulo("4", "12"), only("-6"), only("-2")}, {Rem, modulo("4", "12"), only("0"), empty}, {Rem, only("7"), only("-4"), only("-1")}, {Rem, only("7"), modulo("0", "4"), modulo("3", "4")}, {Rem, only("7"), modulo("2", "4"), modulo("1", "2")}, {Rem, modulo("4", "12"), modulo("0", "4"), modulo("0", "4")}, {Rem, top, only("1"), only("0")}, {Rem, top, only("2"), top}, {Rem, empty, only("0"), empty}, {Rem, only("1"), empty, empty},
	} {
		got, e := x.call(x.c, x.d)
		want(t, fmt.Sprint("example ", i), got, x.w, e, api.OK)
	}
	low, e := Least(modulo("2", "6"), "-5")
	want(t, "Least", low, "-4", e, api.OK)
	high, e := Greatest(modulo("2", "6"), "1")
	want(t, "Greatest", high, "-4", e, api.OK)
}

// TestP22Errors has classes with errors, in all places (P22.1, P22.2).
func TestP22Errors(t *testing.T) {
	for i, x := range faulty {
		negated, e := Neg(x.c)
		want(t, fmt.Sprint("Neg ", i), negated, zero, e, x.e)
		others := []api.Congruence{empty, top, only("0"), modulo("1", "2")}
		for _, y := range faulty {
			others = append(others, y.c)
		}
		for j, other := range others {
			leq, e := Leq(x.c, other)
			want(t, fmt.Sprint("Leq ", i, " ", j), leq, false, e, x.e)
			for _, o := range binary {
				got, e := o.call(x.c, other)
				want(t, fmt.Sprint(o.name, " ", i, " ", j), got, zero, e, x.e)
			}
			if j >= 4 {
				continue
			}
			leq, e = Leq(other, x.c)
			want(t, fmt.Sprint("Leq ", j, " ", i), leq, false, e, x.e)
			for _, o := range binary {
				got, e := o.call(other, x.c)
				want(t, fmt.Sprint(o.name, " ", j, " ", i), got, zero, e, x.e)
			}
		}
		for _, a := range []api.Int{"0", nines, longest, "x", tooLong} {
			low, e := Least(x.c, a)
			want(t, fmt.Sprint("Least ", i), low, "", e, x.e)
			high, e := Greatest(x.c, a)
			want(t, fmt.Sprint("Greatest ", i), high, "", e, x.e)
		}
	}
}

func TestP22_2Nearest(t *testing.T) {
	for _, c := range smallClasses(6) {
		for a := -20; a <= 20; a++ {
			low, e := Least(c, text(a))
			checkNearest(t, fmt.Sprint("Least of ", c, " from ", a), low, e, c, slices.DeleteFunc(members(c, 40), func(b int) bool { return b < a }))
			high, e := Greatest(c, text(a))
			list := slices.DeleteFunc(members(c, 40), func(b int) bool { return b > a })
			slices.Reverse(list)
			checkNearest(t, fmt.Sprint("Greatest of ", c, " to ", a), high, e, c, list)
		}
		for _, x := range malformed {
			low, e := Least(c, x.a)
			want(t, fmt.Sprint("Least of ", c, " from ", x.a), low, "", e, x.e)
			high, e := Greatest(c, x.a)
			want(t, fmt.Sprint("Greatest of ", c, " to ", x.a), high, "", e, x.e)
		}
	}
}

// checkNearest checks a result that should be the first one of a list, if there is one.
func checkNearest(t *testing.T, what string, got api.Int, e api.Errno, c api.Congruence, list []int) {
	t.Helper()
	switch {
	case c.Empty:
		want(t, what, got, "", e, api.ErrEmpty)
	case len(list) == 0:
		want(t, what, got, "", e, api.ErrNone)
	default:
		want(t, what, got, text(list[0]), e, api.OK)
	}
}

// TestP22_2Longest has results with up to api.MaxLong digits, and more.
func TestP22_2Longest(t *testing.T) {
	eights := longest[:api.MaxLong-1] + "8"
	for i, x := range []struct {
		c         api.Congruence
		a         api.Int
		low, high api.Int
		e, f      api.Errno
	}{
		{top, longest, longest, longest, api.OK, api.OK}, {top, "-" + longest, "-" + longest, "-" + longest, api.OK, api.OK},
		{modulo("0", "2"), longest, "", eights, api.ErrLarge, api.OK}, {modulo("0", "2"), "-" + longest, "-" + eights, "", api.OK, api.ErrLarge}, {modulo("0", "2"), eights, eights, eights, api.OK, api.OK}, {modulo("1", "2"), eights, longest, longest[:api.MaxLong-1] + "7", api.OK, api.OK}, {modulo("9", "10"), longest, longest, longest, api.OK, api.OK},
		{modulo("0", nines), longest[:4000], longest[:4000], longest[:4000], api.OK, api.OK}, {modulo("0", nines), power, "1" + nines[:99] + "8", nines, api.OK, api.OK},
		{only("5"), longest, "", "5", api.ErrNone, api.OK}, {only("5"), "-" + longest, "5", "", api.OK, api.ErrNone}, {only(nines), power, "", nines, api.ErrNone, api.OK}, {only(nines), nines, nines, nines, api.OK, api.OK}, {only("-" + nines), "-" + power, "-" + nines, "", api.OK, api.ErrNone}, {empty, longest, "", "", api.ErrEmpty, api.ErrEmpty},
	} {
		low, e := Least(x.c, x.a)
		want(t, fmt.Sprint("Least ", i), low, x.low, e, x.e)
		high, f := Greatest(x.c, x.a)
		want(t, fmt.Sprint("Greatest ", i), high, x.high, f, x.f)
	}
	r := rand.New(rand.NewSource(2))
	for range 5000 {
		c, a := randomClass(r), randomInt(r)
		if c.Empty || c.Mod == "0" {
			continue
		}
		low, e := Least(c, a)
		_, gap := divide(less(parse(c.Rem), parse(a)), parse(c.Mod))
		want(t, fmt.Sprint("Least of ", c, " from ", a), low, plus(parse(a), gap).String(), e, api.OK)
		high, e := Greatest(c, a)
		_, gap = divide(less(parse(a), parse(c.Rem)), parse(c.Mod))
		want(t, fmt.Sprint("Greatest of ", c, " to ", a), high, less(parse(a), gap).String(), e, api.OK)
	}
}

// isMember reports whether a big integer is in a class.
func isMember(t *testing.T, c api.Congruence, a *big.Int) bool {
	t.Helper()
	holds, e := Holds(c, api.Int(a.String()))
	want(t, "Holds", 0, 0, e, api.OK)
	return holds
}

func TestP22_3Elements(t *testing.T) {
	r := rand.New(rand.NewSource(3))
	for range 10000 {
		c, d := randomClass(r), randomClass(r)
		if c.Empty || d.Empty {
			continue
		}
		a, b := randomMember(r, c), randomMember(r, d)
		results := map[string][]*big.Int{"Join": {a, b}, "Add": {plus(a, b)}, "Sub": {less(a, b)}, "Mul": {times(a, b)}}
		if b.Sign() != 0 {
			quotient, rest := divide(a, b)
			results["Quo"], results["Rem"] = []*big.Int{quotient}, []*big.Int{rest}
		}
		if isMember(t, d, a) {
			results["Meet"] = []*big.Int{a}
		}
		for _, o := range binary {
			got, e := o.call(c, d)
			for _, x := range results[o.name] {
				want(t, fmt.Sprint(o.name, " of ", a, " in ", c, " and ", b, " in ", d), isMember(t, got, x), true, e, api.OK)
			}
		}
		negated, e := Neg(c)
		want(t, fmt.Sprint("Neg of ", a, " in ", c), isMember(t, negated, new(big.Int).Neg(a)), true, e, api.OK)
	}
}

func TestP22_3Lattice(t *testing.T) {
	join := func(c, d api.Congruence) api.Congruence { out, _ := Join(c, d); return out }
	meet := func(c, d api.Congruence) api.Congruence { out, _ := Meet(c, d); return out }
	leq := func(c, d api.Congruence) bool { ok, _ := Leq(c, d); return ok }
	list := append(smallClasses(4), modulo("5", "6"), modulo("4", "8"), only("6"))
	for _, c := range list {
		for _, d := range list {
			what := fmt.Sprint(c, " and ", d)
			want(t, what, []api.Congruence{join(c, d), meet(c, d), join(c, meet(c, d)), meet(c, join(c, d))}, []api.Congruence{join(d, c), meet(d, c), c, c}, 0, 0)
			want(t, what, []bool{leq(c, d), leq(c, d), leq(c, join(c, d)), leq(meet(c, d), c)}, []bool{join(c, d) == d, meet(c, d) == c, true, true}, 0, 0)
			for _, f := range list {
				what := fmt.Sprint(what, " and ", f)
				want(t, what, []api.Congruence{join(c, join(d, f)), meet(c, meet(d, f))}, []api.Congruence{join(join(c, d), f), meet(meet(c, d), f)}, 0, 0)
				// The least class that contains both, and the greatest one that both contain.
				want(t, what, []bool{leq(join(c, d), f), leq(f, meet(c, d))}, []bool{leq(c, f) && leq(d, f), leq(f, c) && leq(f, d)}, 0, 0)
				if leq(c, d) {
					for _, o := range binary[2:5] {
						lesser, _ := o.call(c, f)
						greater, _ := o.call(d, f)
						want(t, o.name+" of "+what, leq(lesser, greater), true, 0, 0)
					}
				}
			}
		}
	}
}
