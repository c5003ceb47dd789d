// Package natural computes with natural numbers of any size, in limbs of nine digits.
package natural

import (
	"iter"
	"strconv"
)

const (
	limbDigits = 9
	base       = 1000000000
)

// Number is a natural number: its limbs, the lowest one first, without a zero at the end.
type Number struct {
	limbs []uint32
}

// Parse returns the number with the given digits, and false if there are none, or something else is among them.
func Parse(digits string) (Number, bool) {
	if !allDigits(digits) {
		return Number{}, false
	}
	limbs := make([]uint32, 0, len(digits)/limbDigits+1)
	for limb := range limbsOf(digits) {
		limbs = append(limbs, limb)
	}
	return trimmed(limbs), true
}

func allDigits(text string) bool {
	for i := range len(text) {
		if text[i] < '0' || text[i] > '9' {
			return false
		}
	}
	return text != ""
}

// limbsOf yields the limbs of digits, the lowest one first.
func limbsOf(digits string) iter.Seq[uint32] {
	return func(yield func(uint32) bool) {
		for end := len(digits); end > 0; end -= limbDigits {
			if !yield(limbOf(digits[max(0, end-limbDigits):end])) {
				return
			}
		}
	}
}

// limbOf returns the value of at most nine digits.
func limbOf(digits string) uint32 {
	limb := uint32(0)
	for i := range len(digits) {
		limb = 10*limb + uint32(digits[i]-'0')
	}
	return limb
}

func trimmed(limbs []uint32) Number {
	for len(limbs) > 0 && limbs[len(limbs)-1] == 0 {
		limbs = limbs[:len(limbs)-1]
	}
	return Number{limbs}
}

// Of returns a number that fits into a word.
func Of(word uint64) Number {
	var limbs []uint32
	for ; word > 0; word /= base {
		limbs = append(limbs, uint32(word%base))
	}
	return Number{limbs}
}

// Text returns the digits of a number, without leading zeros.
func (x Number) Text() string {
	if x.IsZero() {
		return "0"
	}
	last := len(x.limbs) - 1
	text := make([]byte, 0, limbDigits*len(x.limbs))
	text = strconv.AppendUint(text, uint64(x.limbs[last]), 10)
	for i := last - 1; i >= 0; i-- {
		text = appendLimb(text, x.limbs[i])
	}
	return string(text)
}

// appendLimb appends all nine digits of a limb.
func appendLimb(text []byte, limb uint32) []byte {
	for unit := uint32(base / 10); unit > 0; unit /= 10 {
		text = append(text, '0'+byte(limb/unit%10))
	}
	return text
}

// Digits returns the number of digits of a number, without leading zeros: 0 has one.
func (x Number) Digits() int {
	if x.IsZero() {
		return 1
	}
	last := len(x.limbs) - 1
	return limbDigits*last + len(strconv.FormatUint(uint64(x.limbs[last]), 10))
}

// IsZero reports whether a number is 0.
func (x Number) IsZero() bool {
	return len(x.limbs) == 0
}

// Compare returns -1, 0 or 1 if x is less than, equal to, or greater than y.
func Compare(x, y Number) int {
	if len(x.limbs) != len(y.limbs) {
		return direction(len(x.limbs) < len(y.limbs))
	}
	for i := len(x.limbs) - 1; i >= 0; i-- {
		if x.limbs[i] != y.limbs[i] {
			return direction(x.limbs[i] < y.limbs[i])
		}
	}
	return 0
}

func direction(less bool) int {
	if less {
		return -1
	}
	return 1
}

// Add returns the sum.
func Add(x, y Number) Number {
	if len(x.limbs) < len(y.limbs) {
		x, y = y, x
	}
	sum := make([]uint32, len(x.limbs)+1)
	carry := uint32(0)
	for i, limb := range x.limbs {
		limb += carry
		if i < len(y.limbs) {
			limb += y.limbs[i]
		}
		sum[i], carry = limb%base, limb/base
	}
	sum[len(x.limbs)] = carry
	return trimmed(sum)
}

// Distance returns the difference of the greater and the lesser one of two numbers.
func Distance(x, y Number) Number {
	if Compare(x, y) < 0 {
		x, y = y, x
	}
	rest := append([]uint32(nil), x.limbs...)
	subtract(rest, y.limbs, 1)
	return trimmed(rest)
}

// subtract takes a multiple of y away from x, which has more limbs than y, or as many, and returns what is missing above its last one.
func subtract(x, y []uint32, times uint64) uint64 {
	borrow := uint64(0)
	for i, limb := range y {
		borrow += times * uint64(limb)
		low := uint32(borrow % base)
		borrow /= base
		if x[i] < low {
			x[i] += base
			borrow++
		}
		x[i] -= low
	}
	for i := len(y); i < len(x) && borrow > 0; i++ {
		low := uint32(borrow)
		borrow = 0
		if x[i] < low {
			x[i] += base
			borrow = 1
		}
		x[i] -= low
	}
	return borrow
}

// Mul returns the product.
func Mul(x, y Number) Number {
	product := make([]uint32, len(x.limbs)+len(y.limbs))
	for i, limb := range x.limbs {
		carry := uint64(0)
		for j, other := range y.limbs {
			carry += uint64(limb)*uint64(other) + uint64(product[i+j])
			product[i+j] = uint32(carry % base)
			carry /= base
		}
		product[i+len(y.limbs)] = uint32(carry)
	}
	return trimmed(product)
}
