package dec_test

import (
	"math"
	"math/big"
	"strconv"
	"strings"
	"testing"

	"thresher/api"
	"thresher/dec"
	"thresher/probe"
)

// dice makes numbers by chance.
type dice struct{ probe.Dice }

func newDice(seed uint64) *dice {
	return &dice{probe.Dice(seed)}
}

// float: a finite one.
func (d *dice) float() float64 {
	for {
		if x := math.Float64frombits(d.Next()); !math.IsNaN(x) && !math.IsInf(x, 0) {
			return x
		}
	}
}

// digits: so many decimal ones.
func (d *dice) digits(n int) string {
	list := make([]byte, n)
	for i := range list {
		list[i] = '0' + byte(d.Next()>>32%10)
	}
	return string(list)
}

// edgy: floats of each power of two, with the parts at which roundings turn.
func edgy() []float64 {
	var list []float64
	for exp := uint64(0); exp < 2047; exp++ {
		for _, frac := range []uint64{0, 1, 1<<51 - 1, 1 << 51, 1<<52 - 2, 1<<52 - 1} {
			list = append(list, math.Float64frombits(exp<<52|frac))
		}
	}
	for k := -330; k < 309; k++ {
		x, _ := strconv.ParseFloat("1e"+strconv.Itoa(k), 64)
		list = append(list, x, math.Nextafter(x, 0), math.Nextafter(x, 1e308))
	}
	return list
}

// handy: numbers that people write, and the ends of what floats can be.
func handy() []float64 {
	list := []float64{0, math.Copysign(0, -1), 0.1, 0.2, 0.3, 0.5, 1, 1.5, 2.5, 3.5, -2.5, 0.125, 0.375, 0.25, 0.75, 2.675, 1.005, 9.5, 9.995, 99.5, 99.95, 999999.5, 0.05, 0.0005, 1234.5, 9.9996, 1e15, 1e16, 1e22, 1e23, 123456789.125, -3.14159, 9007199254740991, 9007199254740992, 1 << 62, 1 << 63, 5e-324, 1e-323, 2.2250738585072011e-308, 2.2250738585072014e-308, math.MaxFloat64, -math.MaxFloat64, math.Nextafter(math.MaxFloat64, 0)}
	for k := range 1100 {
		list = append(list, float64(k)+0.5, float64(k)/8, float64(k))
	}
	return list
}

// floats: those of edgy and handy, and so many others.
func (d *dice) floats(n int) []float64 {
	list := append(edgy(), handy()...)
	for range n {
		list = append(list, d.float())
	}
	return list
}

// exact: a finite float as a fraction.
func exact(x float64) *big.Rat {
	return new(big.Rat).SetFloat64(x)
}

// ten: 10 to the k as a fraction.
func ten(k int) *big.Rat {
	power := new(big.Rat).SetInt(new(big.Int).Exp(big.NewInt(10), big.NewInt(int64(max(k, -k))), nil))
	if k < 0 {
		power.Inv(power)
	}
	return power
}

// value: digits times 10 to the exp.
func value(digits string, exp int) *big.Rat {
	whole, _ := new(big.Int).SetString(digits, 10)
	return new(big.Rat).Mul(new(big.Rat).SetInt(whole), ten(exp))
}

// same: the very same float, sign included?
func same(x, y float64) bool {
	return math.Float64bits(x) == math.Float64bits(y)
}

// checkRead holds what is read against what is asked for.
func checkRead(t *testing.T, digits string, exp int, want float64) {
	t.Helper()
	if x, e := dec.Read(digits, exp); e != api.OK || !same(x, want) {
		t.Fatalf("Read(%s, %d): %v, %d instead of %v", digits, exp, x, e, want)
	}
}

// P3.1: Parts of floats of each power of two.
func TestParts(t *testing.T) {
	d := newDice(1)
	for _, x := range d.floats(5000) {
		for _, signed := range []float64{x, -x} {
			m, e, ok := dec.Parts(signed)
			least := math.Abs(x) < 0x1p-1022
			if !ok || m > 1<<53-1 || least && (e != -1074 || m >= 1<<52) || !least && m < 1<<52 {
				t.Fatalf("Parts(%v): %d, %d, %t", signed, m, e, ok)
			}
			two := new(big.Float).SetMantExp(new(big.Float).SetUint64(m), e)
			if two.Cmp(big.NewFloat(math.Abs(x))) != 0 {
				t.Fatalf("Parts(%v): %d, %d", signed, m, e)
			}
		}
	}
}

// P3.1: Parts at the edges that the chapter names, and of what isn't finite.
func TestPartsEdges(t *testing.T) {
	for _, c := range []struct {
		x float64
		m uint64
		e int
	}{{0, 0, -1074}, {math.Copysign(0, -1), 0, -1074}, {5e-324, 1, -1074}, {-5e-324, 1, -1074}, {0x1p-1022, 1 << 52, -1074}, {math.Nextafter(0x1p-1022, 0), 1<<52 - 1, -1074}, {0x1p-1021, 1 << 52, -1073}, {1, 1 << 52, -52}, {-1, 1 << 52, -52}, {3, 3 << 51, -51}, {math.MaxFloat64, 1<<53 - 1, 971}} {
		if m, e, ok := dec.Parts(c.x); !ok || m != c.m || e != c.e {
			t.Errorf("Parts(%v): %d, %d, %t", c.x, m, e, ok)
		}
	}
	for _, x := range infinite() {
		if m, e, ok := dec.Parts(x); ok || m != 0 || e != 0 {
			t.Errorf("Parts(%v): %d, %d, %t", x, m, e, ok)
		}
	}
}

// infinite: what is no finite float.
func infinite() []float64 {
	return []float64{math.NaN(), math.Inf(1), math.Inf(-1), math.Float64frombits(0x7ff0000000000001), math.Float64frombits(0xfff8000000000000), math.Float64frombits(math.MaxUint64)}
}

// P3.1: the chapter's examples, and numbers near the ends.
func TestReadTable(t *testing.T) {
	for _, c := range []struct {
		digits string
		exp    int
		want   float64
	}{
		{"31416", -4, 3.1416}, {"9007199254740993", 0, 9007199254740992}, {"9007199254740995", 0, 9007199254740996},
		{"90071992547409930000000000000000001", -19, 9007199254740994}, {"90071992547409929999999999999999999", -19, 9007199254740992},
		{"17976931348623159", 292, math.Inf(1)}, {"17976931348623158", 292, math.MaxFloat64},
		{"0", 0, 0}, {"000", 5, 0}, {"0", math.MaxInt, 0}, {"0", math.MinInt, 0}, {"1", math.MaxInt, math.Inf(1)}, {"1", math.MinInt, 0},
		{"1", 308, 1e308}, {"1", 309, math.Inf(1)}, {"1", 310, math.Inf(1)}, {"1", 311, math.Inf(1)},
		{"5", -324, 5e-324}, {"49", -325, 5e-324}, {"3", -324, 5e-324}, {"2", -324, 0}, {"24", -325, 0}, {"25", -325, 5e-324},
		{"22250738585072011", -324, 2.2250738585072011e-308}, {"22250738585072014", -324, 0x1p-1022},
		{"1" + strings.Repeat("0", 1023), -1023, 1}, {strings.Repeat("0", 1023) + "1", 308, 1e308}, {strings.Repeat("0", 1024), 9, 0},
		{strings.Repeat("9", 1024), -1024, 1}, {strings.Repeat("9", 1024), -1025, 0.1}, {strings.Repeat("9", 309), 0, math.Inf(1)},
		{strings.Repeat("9", 1024), -1347, 1e-323}, {strings.Repeat("9", 1024), -1348, 0}, {strings.Repeat("9", 1024), -1349, 0}, {strings.Repeat("9", 1024), -1350, 0},
		{"1" + strings.Repeat("0", 1023), -715, 1e308}, {"1" + strings.Repeat("0", 1023), -714, math.Inf(1)}, {"1" + strings.Repeat("0", 1023), -1346, 1e-323},
	} {
		checkRead(t, c.digits, c.exp, c.want)
	}
}

// P3.1: digits of each length, at powers of ten all over the floats and beyond.
func TestReadAll(t *testing.T) {
	d := newDice(2)
	for range 20000 {
		n := 1 + int(d.Next()>>40%40)
		digits := d.digits(n)
		exp := int(d.Next()>>40%720) - 370
		want, _ := strconv.ParseFloat(digits+"e"+strconv.Itoa(exp), 64)
		checkRead(t, digits, exp, want)
	}
	for range 600 {
		n := 1 + int(d.Next()>>40%1024)
		digits := d.digits(n)
		exp := int(d.Next()>>40%720) - 370 - n
		want, _ := value(digits, exp).Float64()
		checkRead(t, digits, exp, want)
	}
}

// middle: the digits and the power of ten of the number between a float (its amount) and the next one.
func middle(x float64) (string, int) {
	m, e, _ := dec.Parts(x)
	digits := new(big.Int).SetUint64(2*m + 1)
	if e--; e >= 0 {
		return digits.Lsh(digits, uint(e)).String(), 0
	}
	return digits.Mul(digits, new(big.Int).Exp(big.NewInt(5), big.NewInt(int64(-e)), nil)).String(), e
}

// P3.1: the middle between two floats is read as the even one; one digit less or more anywhere behind it decides.
func TestReadMiddles(t *testing.T) {
	list := append(edgy(), handy()...)
	for i, x := range list {
		if i%7 != 0 && x != 0 && x < math.MaxFloat64 {
			continue
		}
		x = math.Abs(x)
		m, _, _ := dec.Parts(x)
		next := math.Nextafter(x, math.Inf(1))
		digits, exp := middle(x)
		even := x
		if m%2 == 1 {
			even = next
		}
		checkRead(t, digits, exp, even)
		checkRead(t, digits+"000", exp-3, even)
		more := digits + strings.Repeat("0", 1023-len(digits)) + "1"
		checkRead(t, more, exp-1024+len(digits), next)
		whole, _ := new(big.Int).SetString(digits, 10)
		less := whole.Sub(whole, big.NewInt(1)).String() + strings.Repeat("9", 1024-len(digits))
		checkRead(t, less, exp-1024+len(digits), x)
	}
}

// P3.1: the middle between the greatest float and 2 to the 1024, from which on it is Inf.
func TestReadGreatest(t *testing.T) {
	edge := new(big.Int).Lsh(big.NewInt(1<<54-1), 970)
	below := new(big.Int).Sub(edge, big.NewInt(1)).String()
	checkRead(t, edge.String(), 0, math.Inf(1))
	checkRead(t, edge.String()+"00", -2, math.Inf(1))
	checkRead(t, below, 0, math.MaxFloat64)
	checkRead(t, below+strings.Repeat("9", 1024-len(below)), len(below)-1024, math.MaxFloat64)
}

// P3.1: what isn't digits, however long it is, stands ahead of what is too long.
func TestReadWrong(t *testing.T) {
	nines := strings.Repeat("9", 5000)
	list := []string{"", " ", "-1", "+1", "1.5", "1e3", "1 ", " 1", "0x1", "\xff", "\u0661", "1_0", "/", ":", nines + "x", "x" + nines, nines + "." + nines, strings.Repeat("\x00", 1025), strings.Repeat("0", 2000) + "-"}
	for b := range 0x100 {
		if b < '0' || b > '9' {
			list = append(list, "1"+string([]byte{byte(b)})+"1")
		}
	}
	for _, s := range list {
		for _, exp := range []int{0, math.MaxInt, math.MinInt} {
			if x, e := dec.Read(s, exp); e != api.ErrNumber || !same(x, 0) {
				t.Errorf("Read(%.40q, %d): %v, %d", s, exp, x, e)
			}
		}
	}
	for _, s := range []string{strings.Repeat("0", 1025), strings.Repeat("1", 1025), strings.Repeat("0", 1024) + "7", nines, strings.Repeat("0", 1<<20)} {
		for _, exp := range []int{0, -2000, math.MaxInt, math.MinInt} {
			if x, e := dec.Read(s, exp); e != api.ErrLong || !same(x, 0) {
				t.Errorf("Read of %d digits, %d: %v, %d", len(s), exp, x, e)
			}
		}
	}
}

// checkFixed and checkSci hold what is written against exact digits, for a float and the one with the other sign.
func checkFixed(t *testing.T, x float64, prec int) {
	t.Helper()
	want := strconv.FormatFloat(math.Abs(x), 'f', prec, 64)
	for _, signed := range []float64{x, -x} {
		if s, e := dec.Fixed(signed, prec); e != api.OK || s != want {
			t.Fatalf("Fixed(%v, %d): %s, %d instead of %s", signed, prec, s, e, want)
		}
	}
}

func checkSci(t *testing.T, x float64, prec int) {
	t.Helper()
	digits, power, _ := strings.Cut(strconv.FormatFloat(math.Abs(x), 'e', prec, 64), "e")
	want, _ := strconv.Atoi(power)
	digits = strings.Replace(digits, ".", "", 1)
	for _, signed := range []float64{x, -x} {
		if s, p, e := dec.Sci(signed, prec); e != api.OK || s != digits || p != want {
			t.Fatalf("Sci(%v, %d): %s, %d, %d instead of %s, %d", signed, prec, s, p, e, digits, want)
		}
	}
}

// P3.1: the chapter's examples, ties and carries.
func TestWriteTable(t *testing.T) {
	for _, c := range []struct {
		x    float64
		prec int
		want string
	}{{2.5, 0, "2"}, {1.5, 0, "2"}, {0.5, 0, "0"}, {0.1, 20, "0.10000000000000000555"}, {-2.5, 0, "2"}, {0, 0, "0"}, {0, 3, "0.000"}, {0.125, 2, "0.12"}, {0.375, 2, "0.38"}, {0.05, 1, "0.1"}, {9.5, 0, "10"}, {99.5, 0, "100"}, {999999.5, 0, "1000000"}, {0.9999, 2, "1.00"}, {0.0625, 3, "0.062"}, {100, 1, "100.0"}, {5e-324, 0, "0"}, {-0.25, 1, "0.2"}} {
		if s, e := dec.Fixed(c.x, c.prec); e != api.OK || s != c.want {
			t.Errorf("Fixed(%v, %d): %s, %d", c.x, c.prec, s, e)
		}
	}
	for _, c := range []struct {
		x     float64
		prec  int
		want  string
		power int
	}{{1234.5, 3, "1234", 3}, {1235.5, 3, "1236", 3}, {9.9996, 3, "1000", 1}, {5e-324, 2, "494", -324}, {9.5, 0, "1", 1}, {8.5, 0, "8", 0}, {0.95, 0, "9", -1}, {0.09999, 2, "100", -1}, {0, 0, "0", 0}, {math.Copysign(0, -1), 4, "00000", 0}, {1, 0, "1", 0}, {-10, 1, "10", 1}, {999999.5, 5, "100000", 6}, {math.MaxFloat64, 0, "2", 308}, {0.5, 2, "500", -1}} {
		if s, p, e := dec.Sci(c.x, c.prec); e != api.OK || s != c.want || p != c.power {
			t.Errorf("Sci(%v, %d): %s, %d, %d", c.x, c.prec, s, p, e)
		}
	}
}

// P3.1: floats of all sizes, with as many digits as are allowed.
func TestWriteAll(t *testing.T) {
	d := newDice(3)
	for i, x := range d.floats(5000) {
		for _, prec := range []int{0, i % 7, 6, int(d.Next() >> 40 % 201)} {
			checkFixed(t, x, prec)
			checkSci(t, x, prec)
		}
	}
	for _, x := range handy() {
		checkFixed(t, x, api.MaxPrec)
		checkSci(t, x, api.MaxPrec)
	}
}

// P3.1: what isn't finite, and precisions that aren't allowed.
func TestWriteWrong(t *testing.T) {
	check := func(x float64, prec int) {
		if s, e := dec.Fixed(x, prec); e != api.ErrRange || s != "" {
			t.Errorf("Fixed(%v, %d): %s, %d", x, prec, s, e)
		}
		if s, p, e := dec.Sci(x, prec); e != api.ErrRange || s != "" || p != 0 {
			t.Errorf("Sci(%v, %d): %s, %d, %d", x, prec, s, p, e)
		}
	}
	for _, prec := range []int{-1, -200, 201, 1 << 40, math.MinInt, math.MaxInt} {
		for _, x := range append(infinite(), 0, 1.5, 5e-324, math.MaxFloat64) {
			check(x, prec)
		}
	}
	for _, prec := range []int{0, 6, 200} {
		for _, x := range infinite() {
			check(x, prec)
		}
	}
}

// P3.2, P2: seventeen digits are read as the float they were written from.
func TestThereAndBack(t *testing.T) {
	d := newDice(4)
	for _, x := range d.floats(20000) {
		digits, power, e := dec.Sci(x, 16)
		if e != api.OK || len(digits) != 17 {
			t.Fatalf("Sci(%v, 16): %s, %d, %d", x, digits, power, e)
		}
		checkRead(t, digits, power-16, math.Abs(x))
	}
}

// P3.3: greater digits are never a lesser float.
func TestReadRises(t *testing.T) {
	for _, exp := range []int{-340, -330, -326, -320, -312, -22, -5, 0, 22, 290, 304, 306} {
		last := 0.0
		for k := range 4000 {
			x, e := dec.Read(strconv.Itoa(k), exp)
			if e != api.OK || !(x >= last) {
				t.Fatalf("Read(%d, %d): %v, %d behind %v", k, exp, x, e, last)
			}
			last = x
		}
	}
	// Here neighbours are nearer to one another than floats are.
	last := 0.0
	for k := range 4000 {
		x, e := dec.Read(strconv.Itoa(9007199254740000+k), 2)
		if e != api.OK || !(x >= last) {
			t.Fatalf("Read(%d, 2): %v, %d behind %v", 9007199254740000+k, x, e, last)
		}
		last = x
	}
}

// P3.3: what Sci answers is at most half of its last digit away.
func TestSciIsNear(t *testing.T) {
	d := newDice(5)
	list := handy()
	for range 1500 {
		list = append(list, d.float())
	}
	half := big.NewRat(1, 2)
	for _, x := range list {
		for _, prec := range []int{0, 1, 5, 16, int(d.Next() >> 40 % 201)} {
			digits, power, e := dec.Sci(x, prec)
			if e != api.OK || len(digits) != prec+1 || x != 0 && digits[0] == '0' {
				t.Fatalf("Sci(%v, %d): %s, %d, %d", x, prec, digits, power, e)
			}
			away := value(digits, power-prec)
			away.Sub(away, exact(math.Abs(x)))
			if away.Abs(away).Cmp(new(big.Rat).Mul(half, ten(power-prec))) > 0 {
				t.Fatalf("Sci(%v, %d): %s, %d is too far away", x, prec, digits, power)
			}
		}
	}
}
