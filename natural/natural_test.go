package natural

import (
	"math/big"
	"math/rand"
	"strings"
	"testing"
)

// edges are limbs at which carries, borrows and guesses of quotients change.
var edges = []uint32{0, 1, 2, base/2 - 1, base / 2, base/2 + 1, base - 2, base - 1}

// samples returns numbers of up to size limbs, most of which are edges.
func samples(random *rand.Rand, count, size int) []Number {
	list := []Number{{}, Of(1), Of(base - 1), Of(base), Of(base + 1)}
	for len(list) < count {
		limbs := make([]uint32, 1+random.Intn(size))
		for i := range limbs {
			limbs[i] = edges[random.Intn(len(edges))]
			if random.Intn(3) == 0 {
				limbs[i] = uint32(random.Intn(base))
			}
		}
		list = append(list, trimmed(limbs))
	}
	return list
}

func toBig(x Number) *big.Int {
	value, _ := new(big.Int).SetString(x.Text(), 10)
	return value
}

func want(t *testing.T, what string, x, y, got Number, wanted *big.Int) {
	t.Helper()
	if got.Text() != wanted.String() {
		t.Fatalf("%s of %s and %s: got %s, want %s", what, x.Text(), y.Text(), got.Text(), wanted)
	}
	if size := len(got.limbs); size > 0 && got.limbs[size-1] == 0 {
		t.Fatalf("%s of %s and %s: a zero at the end of the limbs", what, x.Text(), y.Text())
	}
}

func checkPair(t *testing.T, x, y Number) {
	t.Helper()
	a, b := toBig(x), toBig(y)
	if got := Compare(x, y); got != a.Cmp(b) {
		t.Fatalf("Compare of %s and %s: got %d", a, b, got)
	}
	want(t, "Add", x, y, Add(x, y), new(big.Int).Add(a, b))
	want(t, "Mul", x, y, Mul(x, y), new(big.Int).Mul(a, b))
	distance := new(big.Int).Sub(a, b)
	want(t, "Distance", x, y, Distance(x, y), distance.Abs(distance))
	want(t, "Gcd", x, y, Gcd(x, y), new(big.Int).GCD(nil, nil, a, b))
	quotient, rest := Div(x, y)
	if y.IsZero() {
		want(t, "quotient", x, y, quotient, new(big.Int))
		want(t, "rest", x, y, rest, a)
		return
	}
	q, r := new(big.Int).QuoRem(a, b, new(big.Int))
	want(t, "quotient", x, y, quotient, q)
	want(t, "rest", x, y, rest, r)
}

func TestPairs(t *testing.T) {
	random := rand.New(rand.NewSource(1))
	list := samples(random, 300, 7)
	for _, x := range list {
		for _, y := range list {
			checkPair(t, x, y)
		}
	}
	for range 200 {
		pair := samples(random, 7, 200)
		checkPair(t, pair[5], pair[6])
	}
}

// TestMultiples has quotients that are guessed too high, and common divisors of many limbs.
func TestMultiples(t *testing.T) {
	random := rand.New(rand.NewSource(2))
	for range 3000 {
		list := samples(random, 8, 6)
		x, y, z := list[5], list[6], list[7]
		checkPair(t, Mul(x, z), Mul(y, z))
		checkPair(t, Add(Mul(x, z), y), z)
		if product := Mul(x, z); !product.IsZero() {
			checkPair(t, Distance(product, Of(1)), z)
		}
	}
}

// TestAddBack divides numbers whose quotient is guessed one too high even from two limbs.
func TestAddBack(t *testing.T) {
	for _, c := range [][2][]uint32{
		{{0, 0, base / 2, base/2 - 1}, {1, 0, base / 2}},
		{{0, 0, base / 2, 0, base/2 - 1}, {base - 1, 0, 0, base / 2}},
	} {
		checkPair(t, trimmed(c[0]), trimmed(c[1]))
	}
}

// TestFibonacci has the numbers for which Euclid's algorithm takes the most steps.
func TestFibonacci(t *testing.T) {
	x, y := Of(1), Of(1)
	for range 3000 {
		x, y = Add(x, y), x
	}
	checkPair(t, x, y)
	checkPair(t, Mul(x, Of(6)), Mul(y, Of(15)))
}

// TestSteps checks that the multipliers of steps fit into limbs, and that the steps hold for the least and the greatest numbers with the same top limbs.
func TestSteps(t *testing.T) {
	random := rand.New(rand.NewSource(3))
	for range 20000 {
		x := base*base - 1 - random.Int63n(base*base-base)
		y := random.Int63n(x) >> random.Intn(40)
		s := stepsOf(x, y)
		if max(s.a, -s.a, s.b, -s.b, s.c, -s.c, s.d, -s.d) >= base {
			t.Fatalf("steps of %d and %d: %v", x, y, s)
		}
		for _, low := range [][2]uint64{{0, base - 1}, {base - 1, 0}} {
			long := Add(Mul(Of(uint64(x)), Of(base)), Of(low[0]))
			short := Add(Mul(Of(uint64(y)), Of(base)), Of(low[1]))
			checkPair(t, long, short)
		}
	}
}

func TestLimbsOf(t *testing.T) {
	for limb := range limbsOf("12000000345") {
		if limb != 345 {
			t.Errorf("lowest limb: got %d", limb)
		}
		break
	}
}

func TestParse(t *testing.T) {
	for text, wanted := range map[string]string{"0": "0", "000": "0", "7": "7", "0000000000012": "12", "1000000000": "1000000000", "123456789012345678901": "123456789012345678901"} {
		x, ok := Parse(text)
		if !ok || x.Text() != wanted {
			t.Errorf("Parse of %q: got %q, %v", text, x.Text(), ok)
		}
	}
	for _, text := range []string{"", "-1", "+1", " 1", "1a", "1.0", "\xff", "٣", strings.Repeat("9", 100) + "x"} {
		if x, ok := Parse(text); ok || !x.IsZero() {
			t.Errorf("Parse of %q: got %q, %v", text, x.Text(), ok)
		}
	}
}

func TestDigits(t *testing.T) {
	for _, text := range []string{"0", "1", "9", "10", "999999999", "1000000000", "9999999999", strings.Repeat("9", 18), strings.Repeat("9", 19), "1" + strings.Repeat("0", 27)} {
		if x, _ := Parse(text); x.Digits() != len(text) {
			t.Errorf("digits of %s: got %d", text, x.Digits())
		}
	}
}

func TestWord(t *testing.T) {
	for _, word := range []uint64{0, 1, base - 1, base, base*base - 1, base * base, base*base + 1, 1<<64 - 1} {
		got, ok := Of(word).Word()
		if fits := word < base*base; ok != fits || fits && got != word || !fits && got != 0 {
			t.Errorf("Word of %d: got %d, %t", word, got, ok)
		}
	}
}

func TestOf(t *testing.T) {
	for _, word := range []uint64{0, 1, base - 1, base, base*base - 1, base * base, 1<<64 - 1} {
		if got := Of(word).Text(); got != new(big.Int).SetUint64(word).String() {
			t.Errorf("Of %d: got %s", word, got)
		}
	}
}
