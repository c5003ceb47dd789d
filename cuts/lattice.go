package cuts

import (
	"surveyor/api"
	"surveyor/bigint"
	"surveyor/integer"
)

// lattice contains vectors with the coordinates of facts, which are their coefficients and their constant, and all multiples of the modulus in each coordinate. So everything is computed modulo this number. (Package matrix may meet numbers there that are too long.)
//
// The basis has a row for each coordinate, with 0 in the coordinates before it and a divisor of the modulus there. Behind its coordinates, a row has the multipliers with which the facts have it as their sum.
type lattice struct {
	modulus integer.Number
	basis   [][]integer.Number
}

// latticeOf returns the lattice of equations and congruences.
func latticeOf(modulus integer.Number, size int, facts []api.Fact) lattice {
	l := lattice{modulus, make([][]integer.Number, size)}
	for j := range l.basis {
		l.basis[j] = make([]integer.Number, size+len(facts))
		l.basis[j][j] = modulus
	}
	for i, f := range facts {
		row := rowOf(f, len(facts))
		row[size+i] = integer.Of(1)
		l.insert(l.times(l.factor(f), row))
	}
	return l
}

// rowOf returns the coordinates of a fact, and behind them so many multipliers that are 0.
func rowOf(f api.Fact, multipliers int) []integer.Number {
	return append(numbers(f), make([]integer.Number, multipliers)...)
}

// factor returns the least positive multiplier with which the expression of a fact is divisible by the modulus: 1 for an equation, which has the modulus 0.
func (l lattice) factor(f api.Fact) integer.Number {
	return integer.Divide(l.modulus, integer.Gcd(l.modulus, integer.Parse(f.Mod)))
}

// insert adds a row to the lattice. At each coordinate, it is combined with the row of the basis into two others: one for the basis, with the greatest common divisor there, and one with 0.
func (l lattice) insert(row []integer.Number) {
	for j, by := range l.basis {
		if row[j].IsZero() {
			continue
		}
		divisor, x, y := bezout(by[j], row[j])
		l.basis[j] = l.sum(x, by, y, row)
		row = l.sum(integer.Divide(by[j], divisor), row, integer.Divide(row[j], divisor).Neg(), by)
	}
}

// multipliers returns multipliers of the facts whose sum is congruent to a target, if it is in the lattice.
func (l lattice) multipliers(target api.Fact) ([]integer.Number, bool) {
	size := len(l.basis)
	rest := l.times(integer.Of(-1), rowOf(target, len(l.basis[0])-size))
	for j, by := range l.basis {
		rest = l.sum(integer.Of(1), rest, integer.Quo(rest[j], by[j]).Neg(), by)
		if !rest[j].IsZero() {
			return nil, false
		}
	}
	return rest[size:], true
}

// times returns a multiple of a row.
func (l lattice) times(x integer.Number, row []integer.Number) []integer.Number {
	return mapped(row, func(a integer.Number) integer.Number { return l.residue(integer.Mul(x, a)) })
}

// sum returns the sum of multiples of two rows.
func (l lattice) sum(x integer.Number, row []integer.Number, y integer.Number, other []integer.Number) []integer.Number {
	result := make([]integer.Number, len(row))
	for i, a := range row {
		result[i] = l.residue(integer.Add(integer.Mul(x, a), integer.Mul(y, other[i])))
	}
	return result
}

func (l lattice) residue(x integer.Number) integer.Number {
	return integer.Rem(x, l.modulus)
}

// bezout returns the greatest common divisor of two integers, and the coefficients with which it is their sum.
func bezout(a, b integer.Number) (divisor, x, y integer.Number) {
	d, s, t, _ := bigint.Bezout(a.Text(), b.Text())
	return integer.Parse(d), integer.Parse(s), integer.Parse(t)
}
