package cuts

import (
	"fmt"
	"math/big"
	"math/rand"
	"slices"
	"strings"
	"testing"

	"surveyor/api"
	"surveyor/simplex"
)

// This file has the references that results are compared with, and arguments.

func repeat(digit string, n int) string { return strings.Repeat(digit, n) }

// longest has as many digits as a number of a fact may have.
func longest() api.Int { return api.Int(repeat("9", api.MaxDigits)) }

// text returns a text in which nil and empty slices are the same.
func text(x any) string { return fmt.Sprintf("%q", x) }

func short(x any) string {
	full := text(x)
	if len(full) > 600 {
		return fmt.Sprintf("%s.. (%d bytes)", full[:600], len(full))
	}
	return full
}

// want compares results.
func want(t *testing.T, what string, got, wanted any, e, f api.Errno) {
	t.Helper()
	if text(got) != text(wanted) || e != f {
		t.Errorf("%s: got %s and %d, want %s and %d", what, short(got), e, short(wanted), f)
	}
}

func ge(constant api.Int, coef ...api.Int) api.Fact {
	return api.Fact{Op: api.FactGe, Coef: coef, Const: constant, Mod: "0"}
}

func eq(constant api.Int, coef ...api.Int) api.Fact {
	return api.Fact{Op: api.FactEq, Coef: coef, Const: constant, Mod: "0"}
}

func mod(modulus, constant api.Int, coef ...api.Int) api.Fact {
	return api.Fact{Op: api.FactMod, Coef: coef, Const: constant, Mod: modulus}
}

func list(facts ...api.Fact) []api.Fact { return facts }

// by returns terms: the indices and multipliers of words such as "0:1/2 3:-1".
func by(words string) []api.Term {
	var terms []api.Term
	for _, field := range strings.Fields(words) {
		var i int
		at, mult, _ := strings.Cut(field, ":")
		if _, e := fmt.Sscan(at, &i); e != nil {
			panic(e)
		}
		terms = append(terms, api.Term{Fact: i, Mult: api.Rat(mult)})
	}
	return terms
}

func cut(terms string, round int, result api.Fact) api.Cut {
	return api.Cut{Terms: by(terms), Round: round, Result: result}
}

func toInt(x api.Int) *big.Int {
	value, ok := new(big.Int).SetString(string(x), 10)
	if !ok {
		panic("no integer: " + x)
	}
	return value
}

func toRat[T ~string](x T) *big.Rat {
	value, ok := new(big.Rat).SetString(string(x))
	if !ok {
		panic("no number: " + x)
	}
	return value
}

// ceil returns the least integer that is at least x.
func ceil(x *big.Rat) *big.Int {
	floor, rest := new(big.Int).DivMod(x.Num(), x.Denom(), new(big.Int))
	if rest.Sign() != 0 {
		floor.Add(floor, big.NewInt(1))
	}
	return floor
}

// least returns the least integer that is at least x, and congruent to the opposite of the constant of a fact, if there is one.
func least(x *big.Rat, g *api.Fact) *big.Int {
	t := ceil(x)
	for g != nil && !divides(g.Mod, new(big.Int).Add(t, toInt(g.Const))) {
		t.Add(t, big.NewInt(1))
	}
	return t
}

func divides(m api.Int, x *big.Int) bool {
	return new(big.Int).Mod(x, toInt(m)).Sign() == 0
}

func all(f api.Fact) []api.Int { return append(slices.Clone(f.Coef), f.Const) }

func isVain(f api.Fact) bool {
	return !slices.ContainsFunc(f.Coef, func(x api.Int) bool { return x != "0" })
}

// holdsFor reports whether a fact holds where its expression has a value.
func holdsFor(f api.Fact, x *big.Int) bool {
	switch f.Op {
	case api.FactGe:
		return x.Sign() >= 0
	case api.FactEq:
		return x.Sign() == 0
	}
	return divides(f.Mod, x)
}

// isRightStep reports whether a step without errors is right, by the rules of the document one after another.
func isRightStep(facts []api.Fact, c api.Cut) bool {
	n := len(c.Result.Coef)
	sum := make([]*big.Rat, n+1)
	for i := range sum {
		sum[i] = new(big.Rat)
		for _, t := range c.Terms {
			sum[i].Add(sum[i], new(big.Rat).Mul(toRat(t.Mult), toRat(all(facts[t.Fact])[i])))
		}
	}
	equal := func(f api.Fact, size int) bool {
		for i, x := range all(f)[:size] {
			if sum[i].Cmp(toRat(x)) != 0 {
				return false
			}
		}
		return true
	}
	kinds := func(ops ...int) bool {
		return !slices.ContainsFunc(c.Terms, func(t api.Term) bool { return !slices.Contains(ops, facts[t.Fact].Op) })
	}
	one := func(k int) bool {
		return len(c.Terms) == k && !slices.ContainsFunc(c.Terms, func(t api.Term) bool { return t.Mult != "1" })
	}
	switch {
	case c.Result.Op == api.FactGe && kinds(api.FactGe, api.FactEq) && equal(c.Result, n) && isBoundBy(facts, c, sum[n]):
		return true
	case c.Round != -1:
		return false
	case c.Result.Op == api.FactEq && kinds(api.FactEq) && equal(c.Result, n+1):
		return true
	case c.Result.Op == api.FactEq && one(2) && kinds(api.FactGe) && equal(ge("0", slices.Repeat([]api.Int{"0"}, n)...), n+1) && slices.Equal(all(c.Result), all(facts[c.Terms[0].Fact])):
		return true
	case c.Result.Op == api.FactMod && kinds(api.FactEq, api.FactMod) && isCongruent(facts, c, sum):
		return true
	}
	return one(1) && isVain(facts[c.Terms[0].Fact]) && !holdsFor(facts[c.Terms[0].Fact], toInt(facts[c.Terms[0].Fact].Const))
}

// isBoundBy checks the rest of the first rule.
func isBoundBy(facts []api.Fact, c api.Cut, d *big.Rat) bool {
	for _, t := range c.Terms {
		if facts[t.Fact].Op == api.FactGe && toRat(t.Mult).Sign() < 0 {
			return false
		}
	}
	var g *api.Fact
	if c.Round != -1 {
		g = &facts[c.Round]
		if g.Op != api.FactMod || !slices.Equal(g.Coef, c.Result.Coef) {
			return false
		}
	}
	t := least(new(big.Rat).Neg(d), g)
	return toInt(c.Result.Const).Cmp(t.Neg(t)) >= 0
}

// isCongruent checks the rest of the fourth rule.
func isCongruent(facts []api.Fact, c api.Cut, sum []*big.Rat) bool {
	for _, t := range c.Terms {
		mult := toRat(t.Mult)
		if !mult.IsInt() || facts[t.Fact].Op == api.FactMod && !divides(c.Result.Mod, new(big.Int).Mul(mult.Num(), toInt(facts[t.Fact].Mod))) {
			return false
		}
	}
	for i, x := range all(c.Result) {
		if !divides(c.Result.Mod, new(big.Int).Sub(sum[i].Num(), toInt(x))) {
			return false
		}
	}
	return true
}

// isProof is Verify for arguments without errors, by the document.
func isProof(hyps []api.Fact, target api.Fact, proof []api.Cut) bool {
	facts := slices.Clone(hyps)
	for _, c := range proof {
		if !isRightStep(facts, c) {
			return false
		}
		facts = append(facts, c.Result)
	}
	if len(proof) > 0 {
		facts = facts[len(facts)-1:]
	}
	return slices.ContainsFunc(facts, func(f api.Fact) bool { return text(f) == text(target) })
}

// isProved reports whether a target is proved by search, by the document. Minima are those of package simplex; lattices are enumerated, so moduli have to be small.
func isProved(t *testing.T, n int, hyps []api.Fact, target api.Fact) bool {
	t.Helper()
	var constraints []api.Fact
	for _, f := range hyps {
		if f.Op != api.FactMod {
			constraints = append(constraints, f)
		}
	}
	feasible, _, _, e := simplex.Feasible(constraints, n)
	if e != api.OK {
		t.Fatalf("Feasible: %d", e)
	}
	switch {
	case !feasible:
		return true
	case target.Op == api.FactMod:
		return isInLattice(hyps, target)
	case target.Op == api.FactEq:
		return isLeast(t, hyps, constraints, ge(target.Const, target.Coef...)) && isLeast(t, hyps, constraints, opposite(target))
	}
	return isLeast(t, hyps, constraints, target)
}

// opposite returns the inequality with the opposite expression of a fact.
func opposite(f api.Fact) api.Fact {
	var list []api.Int
	for _, x := range all(f) {
		list = append(list, api.Int(new(big.Int).Neg(toInt(x)).String()))
	}
	return ge(list[len(list)-1], list[:len(list)-1]...)
}

func isLeast(t *testing.T, hyps, constraints []api.Fact, target api.Fact) bool {
	t.Helper()
	c := api.Linear{Const: "0"}
	for _, x := range target.Coef {
		c.Coef = append(c.Coef, api.Rat(x))
	}
	low, _, e := simplex.Bounds(c, constraints)
	if e != api.OK {
		t.Fatalf("Bounds: %d", e)
	}
	if low == "" {
		return false
	}
	var g *api.Fact
	for i, f := range hyps {
		if f.Op == api.FactMod && slices.Equal(f.Coef, target.Coef) {
			g = &hyps[i]
			break
		}
	}
	b := least(toRat(low), g)
	return b.Add(b, toInt(target.Const)).Sign() >= 0
}

// isInLattice enumerates the residues of all combinations.
func isInLattice(hyps []api.Fact, target api.Fact) bool {
	m := int(toInt(target.Mod).Int64())
	vector := func(f api.Fact, factor int64) string {
		residues := make([]byte, 0, len(f.Coef)+1)
		for _, x := range all(f) {
			product := new(big.Int).Mul(toInt(x), big.NewInt(factor))
			residues = append(residues, byte(product.Mod(product, toInt(target.Mod)).Int64()))
		}
		return string(residues)
	}
	found := map[string]bool{vector(target, 0): true}
	for _, f := range hyps {
		factor := int64(1)
		switch f.Op {
		case api.FactGe:
			continue
		case api.FactMod:
			factor = int64(m) / new(big.Int).GCD(nil, nil, toInt(target.Mod), toInt(f.Mod)).Int64()
		}
		step := vector(f, factor)
		for len(found) > 0 {
			more := map[string]bool{}
			for x := range found {
				y := []byte(x)
				for i := range y {
					y[i] = byte((int(y[i]) + int(step[i])) % m)
				}
				if !found[string(y)] {
					more[string(y)] = true
				}
			}
			if len(more) == 0 {
				break
			}
			for x := range more {
				found[x] = true
			}
		}
	}
	return found[vector(target, 1)]
}

// allHold reports whether facts hold at a point of small integers.
func allHold(facts []api.Fact, point []int) bool {
	for _, f := range facts {
		sum := toInt(f.Const)
		for i, x := range f.Coef {
			sum.Add(sum, new(big.Int).Mul(toInt(x), big.NewInt(int64(point[i]))))
		}
		if !holdsFor(f, sum) {
			return false
		}
	}
	return true
}

// points calls a function for all points of n integers from -size to size.
func points(n, size int, visit func(point []int)) {
	point := slices.Repeat([]int{-size}, n)
	for {
		visit(point)
		i := 0
		for ; i < n && point[i] == size; i++ {
			point[i] = -size
		}
		if i == n {
			return
		}
		point[i]++
	}
}

func small(random *rand.Rand, size int) api.Int {
	return api.Int(fmt.Sprint(random.Intn(2*size+1) - size))
}

func long(random *rand.Rand, digits int) api.Int {
	limit := new(big.Int).Exp(big.NewInt(10), big.NewInt(int64(digits)), nil)
	value := new(big.Int).Rand(random, limit)
	if random.Intn(2) == 0 {
		value.Neg(value)
	}
	return api.Int(value.String())
}

// randomFact returns a fact with small numbers.
func randomFact(random *rand.Rand, n int) api.Fact {
	f := ge(small(random, 9))
	for range n {
		f.Coef = append(f.Coef, small(random, 2))
	}
	switch random.Intn(4) {
	case 0:
		f.Op = api.FactEq
	case 1:
		f.Op, f.Mod = api.FactMod, api.Int(fmt.Sprint(2+random.Intn(11)))
	}
	return f
}

func randomFacts(random *rand.Rand, n, count int) []api.Fact {
	var facts []api.Fact
	for range count {
		facts = append(facts, randomFact(random, n))
	}
	return facts
}
