package bigint

import (
	"surveyor/api"
	"surveyor/natural"
)

// number is an integer of any size: a magnitude, and whether it is negative (0 is not).
type number struct {
	negative  bool
	magnitude natural.Number
}

// parse reads a canonical integer.
func parse(a api.Int) number {
	magnitude, _ := natural.Parse(digits(a))
	return number{isNegative(a), magnitude}
}

// text returns the canonical notation, of any length.
func (n number) text() api.Int {
	digits := api.Int(n.magnitude.Text())
	if n.negative {
		return "-" + digits
	}
	return digits
}

func plus(magnitude natural.Number) number {
	return number{false, magnitude}
}

func minus(magnitude natural.Number) number {
	return number{!magnitude.IsZero(), magnitude}
}

func negated(n number) number {
	if n.negative {
		return plus(n.magnitude)
	}
	return minus(n.magnitude)
}

// signTable has an operation on magnitudes for the signs of two integers: the row is that of the first one, the column that of the second one, 1 for negative ones.
type signTable [2][2]func(x, y natural.Number) number

func (t signTable) apply(a, b number) number {
	return t[signIndex(a)][signIndex(b)](a.magnitude, b.magnitude)
}

func signIndex(n number) int {
	if n.negative {
		return 1
	}
	return 0
}

func sum(a, b number) number {
	both := func(x, y natural.Number) number { return plus(natural.Add(x, y)) }
	neither := func(x, y natural.Number) number { return minus(natural.Add(x, y)) }
	reversed := func(x, y natural.Number) number { return excess(y, x) }
	return signTable{{both, excess}, {reversed, neither}}.apply(a, b)
}

// excess returns x - y.
func excess(x, y natural.Number) number {
	if natural.Compare(x, y) < 0 {
		return minus(natural.Distance(x, y))
	}
	return plus(natural.Distance(x, y))
}

func difference(a, b number) number {
	return sum(a, negated(b))
}

func product(a, b number) number {
	same := func(x, y natural.Number) number { return plus(natural.Mul(x, y)) }
	opposite := func(x, y natural.Number) number { return minus(natural.Mul(x, y)) }
	return signTable{{same, opposite}, {opposite, same}}.apply(a, b)
}

// quotient rounds down, so that the magnitude of a negative one is rounded up.
func quotient(a, b number) number {
	same := func(x, y natural.Number) number {
		down, _ := natural.Div(x, y)
		return plus(down)
	}
	opposite := func(x, y natural.Number) number {
		up, _ := natural.Div(natural.Add(x, natural.Distance(y, natural.Of(1))), y)
		return minus(up)
	}
	return signTable{{same, opposite}, {opposite, same}}.apply(a, b)
}

// remainder has the sign of b; if the signs differ, it is what is missing from a to the next multiple of b.
func remainder(a, b number) number {
	return signTable{
		{
			func(x, y natural.Number) number { return plus(over(x, y)) },
			func(x, y natural.Number) number { return minus(missing(x, y)) },
		},
		{
			func(x, y natural.Number) number { return plus(missing(x, y)) },
			func(x, y natural.Number) number { return minus(over(x, y)) },
		},
	}.apply(a, b)
}

// over returns x less the last multiple of y up to it.
func over(x, y natural.Number) natural.Number {
	_, rest := natural.Div(x, y)
	return rest
}

// missing returns the next multiple of y from x on, less x.
func missing(x, y natural.Number) natural.Number {
	rest := over(x, y)
	if rest.IsZero() {
		return rest
	}
	return natural.Distance(y, rest)
}

func commonDivisor(a, b number) number {
	return plus(natural.Gcd(a.magnitude, b.magnitude))
}

// bezout returns the greatest common divisor and the coefficients. Each remainder of Euclid's algorithm, which begins with |b| and a, differs from a multiple of a by a multiple of b: the factors of a are computed along with the remainders.
func bezout(a, b number) (g, x, y number) {
	if b.magnitude.IsZero() {
		return plus(a.magnitude), signOf(a), number{}
	}
	g, x = plus(b.magnitude), number{}
	next, factor := remainder(a, g), plus(natural.Of(1))
	for !next.magnitude.IsZero() {
		times := quotient(g, next)
		g, next = next, difference(g, product(times, next))
		x, factor = factor, difference(x, product(times, factor))
	}
	x = remainder(x, quotient(plus(b.magnitude), g))
	y = quotient(difference(g, product(a, x)), b)
	return g, x, y
}

// signOf returns -1, 0 or 1.
func signOf(n number) number {
	if n.magnitude.IsZero() {
		return n
	}
	return number{n.negative, natural.Of(1)}
}
