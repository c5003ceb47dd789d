package bigint

import (
	"strconv"

	"surveyor/api"
	"surveyor/natural"
)

// shortDigits is the number of digits of a limb: the product of two integers with as many fits into an int64.
const shortDigits = 9

// operation is an operation on two integers: for short ones, and for all of them. Most numbers of programs are short, and need no limbs.
type operation struct {
	short func(x, y int64) int64
	long  func(a, b number) number
}

// compute returns the result of an operation, if it is not too long.
func compute(o operation, a, b api.Int) (api.Int, api.Errno) {
	if e := checkBoth(a, b); e != api.OK {
		return "", e
	}
	if isShort(a) && isShort(b) {
		return api.Int(strconv.FormatInt(o.short(word(a), word(b)), 10)), api.OK
	}
	result := o.long(parse(a), parse(b)).text()
	if isLong(result) {
		return "", api.ErrLarge
	}
	return result, api.OK
}

// divide returns the result of an operation that is not defined if b is 0.
func divide(o operation, a, b api.Int) (api.Int, api.Errno) {
	if b == "0" && Check(a) == api.OK {
		return "", api.ErrZero
	}
	return compute(o, a, b)
}

func isShort(a api.Int) bool {
	return len(digits(a)) <= shortDigits
}

// word returns the value of a short integer.
func word(a api.Int) int64 {
	value, _ := strconv.ParseInt(string(a), 10, 64)
	return value
}

// shortQuotient rounds down, where Go's division rounds towards 0.
func shortQuotient(x, y int64) int64 {
	if x%y != 0 && (x < 0) != (y < 0) {
		return x/y - 1
	}
	return x / y
}

func shortRemainder(x, y int64) int64 {
	return x - y*shortQuotient(x, y)
}

func shortDivisor(x, y int64) int64 {
	return int64(natural.GcdWords(uint64(max(x, -x)), uint64(max(y, -y))))
}
