package rational

import (
	"surveyor/api"
	"surveyor/bigint"
)

// operation returns the numerator and the denominator of a result, not in lowest terms.
type operation func(x, y fraction) (num, den api.Int, e api.Errno)

// compute applies the operation with a sign.
func compute(sign byte, a, b api.Rat) (api.Rat, api.Errno) {
	x, y, e := parseBoth(a, b)
	if e != api.OK {
		return "", e
	}
	num, den, e := operationOf(sign)(x, y)
	if e != api.OK {
		return "", e
	}
	return Of(num, den)
}

func operationOf(sign byte) operation {
	operations := map[byte]operation{
		'+': func(x, y fraction) (num, den api.Int, e api.Errno) {
			return combine(bigint.Add, x, y)
		},
		'-': func(x, y fraction) (num, den api.Int, e api.Errno) {
			return combine(bigint.Sub, x, y)
		},
		'*': func(x, y fraction) (num, den api.Int, e api.Errno) {
			return products(x.num, y.num, x.den, y.den)
		},
		'/': func(x, y fraction) (num, den api.Int, e api.Errno) {
			if y.num == "0" {
				return "", "", api.ErrZero
			}
			return products(x.num, y.den, x.den, y.num)
		},
	}
	return operations[sign]
}

// combine adds or subtracts fractions over the product of their denominators.
func combine(join func(a, b api.Int) (api.Int, api.Errno), x, y fraction) (num, den api.Int, e api.Errno) {
	left, right, e := products(x.num, y.den, y.num, x.den)
	if e != api.OK {
		return "", "", e
	}
	if num, e = join(left, right); e != api.OK {
		return "", "", e
	}
	den, e = bigint.Mul(x.den, y.den)
	return num, den, e
}

// products returns a b and c d.
func products(a, b, c, d api.Int) (left, right api.Int, e api.Errno) {
	if left, e = bigint.Mul(a, b); e != api.OK {
		return "", "", e
	}
	if right, e = bigint.Mul(c, d); e != api.OK {
		return "", "", e
	}
	return left, right, api.OK
}
