package simplex

import (
	"fmt"
	"math/big"
	"math/rand"
	"slices"
	"testing"

	"surveyor/api"
)

// checkProgram checks the results of all functions by their certificates.
func checkProgram(t *testing.T, c api.Linear, l []api.Fact) api.Optimum {
	t.Helper()
	o := checkMaximum(t, c, l)
	checkFeasible(t, l, len(c.Coef), o.Verdict != api.ProgramInfeasible)
	least, greatest, e := Bounds(c, l)
	p := must(Minimize(c, l))
	if o.Verdict == api.ProgramInfeasible {
		want(t, "Bounds", []api.Rat{least, greatest}, []api.Rat{"", ""}, e, api.ErrEmpty)
	} else {
		want(t, "Bounds", []api.Rat{least, greatest}, []api.Rat{p.Value, o.Value}, e, api.OK)
	}
	return o
}

// TestP5_2Limits has programs of the greatest sizes for which the document excludes ErrLarge.
func TestP5_2Limits(t *testing.T) {
	random := rand.New(rand.NewSource(5))
	for _, x := range []struct{ n, m, digits int }{{0, api.MaxFacts, 100}, {1, api.MaxFacts, 100}, {4, 20, 100}, {9, 20, 100}, {19, 25, 50}, {api.MaxDims, 20, 30}, {api.MaxDims, api.MaxFacts, 2}} {
		for _, feasible := range []bool{true, false} {
			c, l := longProgram(random, x.n, x.m, x.digits, feasible)
			for i := range min(2, x.n) {
				l[i].Op = api.FactEq
			}
			checkProgram(t, c, l)
		}
	}
}

// TestP5_2Denominators has an objective with denominators whose common multiple is as long as the document allows without ErrLarge, and one for which an error may be returned.
func TestP5_2Denominators(t *testing.T) {
	for _, n := range []int{9, api.MaxDims} {
		c, l := lin("1/3"), []api.Fact{}
		den := toRat("1" + repeat("0", api.MaxDigits-1)).Num()
		for i := range n {
			den.Add(den, big.NewInt(1))
			c.Coef = append(c.Coef, toText(new(big.Rat).SetFrac(toRat(string(longest())).Num(), den)))
			for _, sign := range []api.Int{"", "-"} {
				f := ge(longest(), slices.Repeat([]api.Int{"0"}, n)...)
				f.Coef[i] = sign + longest()[i:]
				l = append(l, f)
			}
		}
		o, e := Maximize(c, l)
		switch {
		case e == api.OK:
			want(t, "Verify", Verify(c, l, o), api.OK, 0, 0)
		case n == 9 || e != api.ErrLarge:
			t.Errorf("Maximize over %d variables: %d", n, e)
		default:
			want(t, "Maximize", o, api.Optimum{}, 0, 0)
		}
	}
}

// corner returns a program at whose corner, with all unknowns 1, the simplex algorithm begins behind a search for a feasible point: there scale (x - 1) >= 0 in each coordinate, and the rows are 0, where they have no constant. Each row, and the objective, is a combination of the coordinates of scale (x - 1), given times the scale.
func corner(scale int, objective []int, rows [][]int) (api.Linear, []api.Fact) {
	number := func(x int) api.Int { return api.Int(fmt.Sprint(x)) }
	c := lin("0")
	var l []api.Fact
	for i, x := range objective {
		c.Coef = append(c.Coef, api.Rat(number(x)))
		f := ge(number(-scale), slices.Repeat([]api.Int{"0"}, len(objective))...)
		f.Coef[i] = number(scale)
		l = append(l, f)
	}
	for _, row := range rows {
		constant := row[len(objective)]
		f := ge("")
		for _, x := range row[:len(objective)] {
			f.Coef = append(f.Coef, number(x))
			constant -= x
		}
		f.Const = number(constant)
		l = append(l, f)
	}
	return c, l
}

// TestP5_2Cycles has programs at which the simplex algorithm runs in circles, if it always takes the greatest entry.
func TestP5_2Cycles(t *testing.T) {
	// Chvatal
	c, l := corner(2, []int{20, -114, -18, -48}, [][]int{{-1, 11, 5, -18, 0}, {-1, 3, 1, -2, 0}, {-2, 0, 0, 0, 1}})
	want(t, "Maximize", checkProgram(t, c, l).Value, "-159", 0, 0)
	// Beale
	c, l = corner(100, []int{75, -15000, 2, -600}, [][]int{{-25, 6000, 4, -900, 0}, {-50, 9000, 2, -300, 0}, {0, 0, -100, 0, 1}})
	want(t, "Maximize", checkProgram(t, c, l).Value, "-310459/20", 0, 0)
}

// TestP5_2Cube has a cube that is distorted so that the simplex algorithm can visit all of its corners (Klee and Minty).
func TestP5_2Cube(t *testing.T) {
	n := 10
	zeros := slices.Repeat([]api.Int{"0"}, n)
	c, l := lin("0"), []api.Fact{}
	for i := range n {
		c.Coef = append(c.Coef, api.Rat(fmt.Sprint(1<<(n-1-i))))
		lower := ge("0", slices.Clone(zeros)...)
		lower.Coef[i] = "1"
		upper := ge(api.Int(new(big.Int).Exp(big.NewInt(5), big.NewInt(int64(i+1)), nil).String()), slices.Clone(zeros)...)
		for k := range i {
			upper.Coef[k] = api.Int(fmt.Sprint(-(1 << (i + 1 - k))))
		}
		upper.Coef[i] = "-1"
		l = append(l, lower, upper)
	}
	want(t, "Maximize", checkProgram(t, c, l).Value, "9765625", 0, 0)
}

// TestP5_2Degenerate has cones, with all constants 0, and many equal and opposite constraints.
func TestP5_2Degenerate(t *testing.T) {
	random := rand.New(rand.NewSource(6))
	verdicts := map[int]int{}
	for range 150 {
		n := 1 + random.Intn(8)
		var l []api.Fact
		for range random.Intn(api.MaxFacts / 2) {
			f := ge("0")
			for range n {
				f.Coef = append(f.Coef, smallInt(random))
			}
			if random.Intn(9) == 0 {
				f.Op = api.FactEq
			}
			l = append(l, f)
			if random.Intn(2) == 0 {
				l = append(l, l[random.Intn(len(l))])
			}
		}
		if random.Intn(3) == 0 && len(l) > 0 {
			i := random.Intn(len(l))
			l[i].Const = smallInt(random)
		}
		c := lin("0")
		for range n {
			c.Coef = append(c.Coef, api.Rat(smallInt(random)))
		}
		verdicts[checkProgram(t, c, l).Verdict]++
	}
	if len(verdicts) != 3 {
		t.Errorf("the verdicts are %v", verdicts)
	}
}

// TestP5_2Transport has the equations of an assignment, one of which depends on the others.
func TestP5_2Transport(t *testing.T) {
	size := 5
	n := size * size
	unit := func(op int, constant api.Int, chosen func(i, k int) bool) api.Fact {
		f := api.Fact{Op: op, Const: constant, Mod: "0"}
		for i := range n {
			f.Coef = append(f.Coef, map[bool]api.Int{true: "1", false: "0"}[chosen(i/size, i%size)])
		}
		return f
	}
	var l []api.Fact
	for j := range size {
		l = append(l, unit(api.FactEq, "-1", func(i, _ int) bool { return i == j }), unit(api.FactEq, "-1", func(_, k int) bool { return k == j }))
	}
	for j := range n {
		l = append(l, unit(api.FactGe, "0", func(i, k int) bool { return i*size+k == j }))
	}
	c := lin("0")
	for j := range n {
		c.Coef = append(c.Coef, api.Rat(fmt.Sprint((j*7)%11)))
	}
	o := checkProgram(t, c, l)
	best, order := 0, []int{0, 1, 2, 3, 4}
	forOrders(order, 0, func() {
		sum := 0
		for i, k := range order {
			sum += ((i*size + k) * 7) % 11
		}
		best = max(best, sum)
	})
	want(t, "Maximize", o.Value, fmt.Sprint(best), 0, 0)
	l[0].Const = "-2"
	want(t, "Maximize", checkProgram(t, c, l).Verdict, api.ProgramInfeasible, 0, 0)
}

func forOrders(list []int, from int, function func()) {
	if from == len(list) {
		function()
	}
	for i := from; i < len(list); i++ {
		list[from], list[i] = list[i], list[from]
		forOrders(list, from+1, function)
		list[from], list[i] = list[i], list[from]
	}
}

// TestP5_1EssentialRandom checks for larger programs that what is left out is implied by what remains, and that nothing that remains is implied by the rest.
func TestP5_1EssentialRandom(t *testing.T) {
	random := rand.New(rand.NewSource(7))
	for round := range 60 {
		n := 1 + random.Intn(6)
		_, l := longProgram(random, n, random.Intn(30), 1, round%2 == 0)
		for range min(3, len(l)) {
			f := l[random.Intn(len(l))]
			f.Const = map[bool]api.Int{true: "0", false: f.Const}[random.Intn(2) == 0]
			f.Op = random.Intn(2)
			l = append(l, f)
		}
		indices := must(Essential(l, n))
		var rest []api.Fact
		for _, i := range indices {
			rest = append(rest, l[i])
		}
		if !slices.IsSorted(indices) {
			t.Fatalf("Essential of %s: got %d", short(l), indices)
		}
		for k, i := range indices {
			if must(Implied(slices.Delete(slices.Clone(rest), k, k+1), l[i])) {
				t.Fatalf("Essential of %s: %d is implied", short(l), i)
			}
		}
		for _, f := range l {
			if !must(Implied(rest, f)) {
				t.Fatalf("Essential of %s: %s is not implied", short(l), short(f))
			}
		}
	}
}

// TestP5_1EssentialLimit has as many constraints as there can be.
func TestP5_1EssentialLimit(t *testing.T) {
	random := rand.New(rand.NewSource(8))
	_, l := longProgram(random, 9, api.MaxFacts, 10, true)
	indices := must(Essential(l, 9))
	if len(indices) == 0 {
		t.Errorf("no constraint remains")
	}
	_, l = longProgram(random, 3, api.MaxFacts, 100, false)
	want(t, "Essential of a contradiction", len(must(Essential(l, 3))) <= 4, true, 0, 0)
}

// chosen returns the constraints with the given indices.
func chosen(l []api.Fact, indices []int) []api.Fact {
	var result []api.Fact
	for _, i := range indices {
		result = append(result, l[i])
	}
	return result
}

// TestP5_3Consequences checks what follows from right results.
func TestP5_3Consequences(t *testing.T) {
	random := rand.New(rand.NewSource(9))
	for range 1000 {
		c, l := randomProgram(random)
		n := len(c.Coef)
		o := must(Maximize(c, l))
		ok, point, _, _ := Feasible(l, n)
		if ok && o.Verdict == api.ProgramOptimal {
			value := dot(rats(c.Coef), rats(point))
			if value.Add(value, toRat(string(c.Const))).Cmp(toRat(string(o.Value))) > 0 {
				t.Fatalf("%s has a greater value than %s at %s", short(c), o.Value, short(point))
			}
		}
		rest := must(Maximize(c, chosen(l, must(Essential(l, n)))))
		want(t, "Maximize with the essential constraints", []any{rest.Verdict, rest.Value}, []any{o.Verdict, o.Value}, 0, 0)
		checkScaled(t, c, l, o)
		if len(l) == 0 {
			continue
		}
		fewer := must(Maximize(c, l[:len(l)-1]))
		if fewer.Verdict == api.ProgramInfeasible && o.Verdict != api.ProgramInfeasible || fewer.Verdict == api.ProgramOptimal && o.Verdict == api.ProgramUnbounded {
			t.Fatalf("a further constraint made %s of %s", short(o), short(fewer))
		}
		if fewer.Verdict == o.Verdict && o.Verdict == api.ProgramOptimal && toRat(string(o.Value)).Cmp(toRat(string(fewer.Value))) > 0 {
			t.Fatalf("a further constraint made %s of %s", o.Value, fewer.Value)
		}
	}
}

// checkScaled checks that the optimum of 5/3 c - 7/2 is that of c, scaled and shifted.
func checkScaled(t *testing.T, c api.Linear, l []api.Fact, o api.Optimum) {
	t.Helper()
	factor, shift := big.NewRat(5, 3), big.NewRat(-7, 2)
	change := func(x api.Rat) *big.Rat { return new(big.Rat).Mul(toRat(string(x)), factor) }
	changed := lin(toText(new(big.Rat).Add(change(c.Const), shift)))
	for _, x := range c.Coef {
		changed.Coef = append(changed.Coef, toText(change(x)))
	}
	wanted := o.Value
	if wanted != "" {
		wanted = toText(new(big.Rat).Add(change(o.Value), shift))
	}
	p := must(Maximize(changed, l))
	want(t, "Maximize of a changed objective", []any{p.Verdict, p.Value}, []any{o.Verdict, wanted}, 0, 0)
}

// TestP5_3Verdicts tries the results of one verdict's form for programs of another verdict.
func TestP5_3Verdicts(t *testing.T) {
	random := rand.New(rand.NewSource(10))
	var points, rays, mults [][]api.Rat
	for range 300 {
		c, l := randomProgram(random)
		o := must(Maximize(c, l))
		points, rays, mults = append(points, o.Point), append(rays, o.Ray), append(mults, o.Mult)
		for i := range points {
			for _, p := range []api.Optimum{optimal("0", points[i], mults[i]), unbounded(points[i], rays[i]), infeasible(mults[i]...)} {
				if p.Verdict != o.Verdict && Verify(c, l, p) == api.OK {
					t.Fatalf("%s is right for %s with %s, and so is %s", short(p), short(c), short(l), short(o))
				}
			}
		}
	}
}

// TestMemory checks that arguments are not changed, that results share no memory, and that the same arguments have the same results.
func TestMemory(t *testing.T) {
	c := lin("1", append(make([]api.Rat, 0, 5), "1", "1/2")...)
	l := append(make([]api.Fact, 0, 9), triangle()...)
	state := func() string { return short([]any{c, c.Coef[:3], l, l[:5]}) }
	before := state()
	first := must(Maximize(c, l))
	text := short(first)
	for _, list := range [][]api.Rat{first.Point, first.Mult} {
		_ = append(list, "x")
		for i := range list {
			list[i] = "x"
		}
	}
	must(Minimize(c, l))
	must(Implied(l, l[0]))
	must(Essential(l, 2))
	_, _, _ = Bounds(c, l)
	if state() != before {
		t.Errorf("arguments were changed from %s to %s", before, state())
	}
	want(t, "Maximize again", short(must(Maximize(c, l))), text, 0, 0)
}
