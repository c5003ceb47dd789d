package rational

import (
	"strings"

	"surveyor/api"
	"surveyor/bigint"
	"surveyor/natural"
)

// fraction is a rational number: its numerator and its denominator, which is positive.
type fraction struct {
	num, den api.Int
}

// text returns the canonical notation of a fraction in lowest terms.
func (x fraction) text() api.Rat {
	if x.den == "1" {
		return api.Rat(x.num)
	}
	return api.Rat(x.num + "/" + x.den)
}

// parse reads a number in canonical notation. A number that is not in lowest terms has not the form, however many digits it has.
func parse(a api.Rat) (fraction, api.Errno) {
	num, den, found := strings.Cut(string(a), "/")
	x := fraction{api.Int(num), "1"}
	if found {
		x.den = api.Int(den)
	}
	e, f := bigint.Check(x.num), bigint.Check(x.den)
	switch {
	case e == api.ErrForm || f == api.ErrForm:
		return fraction{}, api.ErrForm
	case found && !(isAboveOne(x.den) && haveNoDivisor(x.num, x.den)):
		return fraction{}, api.ErrForm
	case e != api.OK || f != api.OK:
		return fraction{}, api.ErrLarge
	}
	return x, api.OK
}

// parseBoth returns the first error of two numbers.
func parseBoth(a, b api.Rat) (x, y fraction, e api.Errno) {
	if x, e = parse(a); e != api.OK {
		return fraction{}, fraction{}, e
	}
	if y, e = parse(b); e != api.OK {
		return fraction{}, fraction{}, e
	}
	return x, y, api.OK
}

func isAboveOne(a api.Int) bool {
	return a[0] != '-' && a != "0" && a != "1"
}

// haveNoDivisor reports whether two integers of any length have no common divisor but 1.
func haveNoDivisor(a, b api.Int) bool {
	divisor, e := bigint.Gcd(a, b)
	if e != api.OK {
		divisor = api.Int(natural.Gcd(magnitude(a), magnitude(b)).Text())
	}
	return divisor == "1"
}

func magnitude(a api.Int) natural.Number {
	number, _ := natural.Parse(strings.TrimPrefix(string(a), "-"))
	return number
}

// reduced returns the fraction in lowest terms of two integers with this greatest common divisor.
func reduced(num, den, divisor api.Int) fraction {
	if den[0] == '-' {
		divisor = "-" + divisor
	}
	if divisor == "1" {
		return fraction{num, den}
	}
	num, _ = bigint.Quo(num, divisor)
	den, _ = bigint.Quo(den, divisor)
	return fraction{num, den}
}
