package num_test

import (
	"math"
	"math/big"
	"regexp"
	"strconv"
	"strings"
	"testing"

	"thresher/dec"
	"thresher/num"
	"thresher/probe"
)

// The grammar of the chapter, told once more.
var (
	signed  = longest(`^[ \t\n]*([-+]?)(([0-9]+\.?[0-9]*|\.[0-9]+)([eE][-+]?[0-9]+)?)`)
	plain   = longest(`^([0-9]+\.?[0-9]*|\.[0-9]+)([eE][-+]?[0-9]+)?`)
	sixteen = longest(`^0[xX][0-9a-fA-F]{1,13}`)
	whole   = longest(`^[ \t\n]*[-+]?([0-9]+\.?[0-9]*|\.[0-9]+)([eE][-+]?[0-9]+)?[ \t\n]*$`)
)

func longest(pattern string) *regexp.Regexp {
	r := regexp.MustCompile(pattern)
	r.Longest()
	return r
}

// dice makes numbers by chance.
type dice struct{ probe.Dice }

func newDice(seed uint64) *dice {
	return &dice{probe.Dice(seed)}
}

// float: any one, of any size.
func (d *dice) float() float64 {
	return math.Float64frombits(d.Next())
}

// near: a finite one, not far from 1, with few binary digits or with many.
func (d *dice) near() float64 {
	m := d.Next() >> (11 + d.Below(52))
	x := math.Ldexp(float64(m), d.Below(120)-80)
	if d.Below(2) == 1 {
		return -x
	}
	return x
}

// digits: so many decimal ones.
func (d *dice) digits(n int) string {
	list := make([]byte, n)
	for i := range list {
		list[i] = '0' + byte(d.Below(10))
	}
	return string(list)
}

// edges: numbers at which calls turn, each with both signs, and what is finite no more.
func edges() []float64 {
	list := []float64{math.NaN(), math.Float64frombits(0xfff8000000000001)}
	for _, x := range []float64{0, 5e-324, 1e-323, 0x1p-1022, math.Nextafter(0x1p-1022, 0), 1e-300, 0.1, 0.25, math.Nextafter(0.5, 0), 0.5, math.Nextafter(0.5, 1), 0.75, math.Nextafter(1, 0), 1, math.Nextafter(1, 2), 1.5, 2, 2.5, 3, 7, 10, 1e9, 1 << 31, 1 << 32, 1<<52 - 0.5, 1 << 52, 1<<53 - 1, 1 << 53, 1<<53 + 2, 1e15, 1e16 - 2, 1e16, 1e16 + 2, 1 << 62, 1 << 63, 1 << 64, 1e22, 1e300, math.MaxFloat64, math.Inf(1)} {
		list = append(list, x, -x)
	}
	return list
}

// parsed: the float that a numeral writes (of exponents near enough to 0).
func parsed(text string) float64 {
	x, _ := strconv.ParseFloat(text, 64)
	return x
}

// short: a text as far as it is worth being told.
func short(s string) string {
	if len(s) > 60 {
		return strconv.Quote(s[:25]) + ".." + strconv.Quote(s[len(s)-25:]) + " of " + strconv.Itoa(len(s))
	}
	return strconv.Quote(s)
}

func checkPrefix(t *testing.T, s string, want float64, size int) {
	t.Helper()
	if x, n := num.Prefix(s); !probe.Same(x, want) || n != size {
		t.Fatalf("Prefix(%s): %v and %d instead of %v and %d", short(s), x, n, want, size)
	}
}

func checkLiteral(t *testing.T, s string, want float64, size int) {
	t.Helper()
	if x, n := num.Literal(s); !probe.Same(x, want) || n != size {
		t.Fatalf("Literal(%s): %v and %d instead of %v and %d", short(s), x, n, want, size)
	}
}

// checkTexts holds all that is said of a text against the grammar.
func checkTexts(t *testing.T, s string) {
	t.Helper()
	if m := signed.FindStringSubmatch(s); m != nil {
		x := parsed(m[2])
		if m[1] == "-" {
			x = -x
		}
		checkPrefix(t, s, x, len(m[0]))
	} else {
		checkPrefix(t, s, 0, 0)
	}
	if got := num.Looks(s); got != whole.MatchString(s) {
		t.Fatalf("Looks(%s): %t", short(s), got)
	}
	if m := sixteen.FindString(s); m != "" {
		n, _ := strconv.ParseUint(m[2:], 16, 64)
		checkLiteral(t, s, float64(n), len(m))
	} else {
		m := plain.FindString(s)
		checkLiteral(t, s, parsed(m), len(m))
	}
}

// P4.1: the examples of the chapter.
func TestExamples(t *testing.T) {
	checkPrefix(t, "  -12.5e1kg", -125, 9)
	checkPrefix(t, "0x10", 0, 1)
	checkLiteral(t, "0x1Fg", 31, 4)
	checkLiteral(t, "1.5e1.2", 15, 5)
	if !num.Looks(" 3 ") || num.Looks("3x") || num.Looks("") {
		t.Error("Looks")
	}
	if s, ok := num.Whole(-1e15); !ok || s != "-1000000000000000" {
		t.Error("Whole(-1e15)", s, ok)
	}
	for _, x := range []float64{1e16, 1.5} {
		if s, ok := num.Whole(x); ok || s != "" {
			t.Error("Whole", x, s, ok)
		}
	}
	if x := num.Mod(-7, 3); x != -1 {
		t.Error("Mod(-7, 3)", x)
	}
	if x := num.Mod(5.5, 2); x != 1.5 {
		t.Error("Mod(5.5, 2)", x)
	}
	if x, ok := num.Pow(2, -2); !ok || x != 0.25 {
		t.Error("Pow(2, -2)", x, ok)
	}
	if x, ok := num.Pow(4, 0.5); ok || !probe.Same(x, 0) {
		t.Error("Pow(4, 0.5)", x, ok)
	}
}

// P4.1: all short texts of the bytes at which numerals turn.
func TestTexts(t *testing.T) {
	do := func(s string) { checkTexts(t, s) }
	probe.EachWord("", 5, strings.Split(" -+07.eEx\r", ""), do)
	probe.EachWord("", 7, strings.Split("-1.e", ""), do)
	probe.EachWord("", 4, strings.Split(" \t\n\r\v\f\x00+-5", ""), do)
	probe.EachWord("0", 4, strings.Split("xX09aAfFgG.e ", ""), do)
	probe.EachWord("", 2, []string{"nan", "inf", "+inf", "-nan", "0b1", "0o7", "0x1p4", "1_0", "1,5", "\u0661", "\u00a0", "1", " ", "\xff", "1e1e1", "1.1.1", "\u2212"}, do)
	for b := range 0x100 {
		one := string([]byte{byte(b)})
		for _, s := range []string{one, one + "1", "1" + one, "1" + one + "1", "." + one, "1e" + one, "1e+" + one, "1." + one, "0x" + one, "0x1" + one, "0" + one + "1", "-" + one + "1", " " + one, "1 " + one} {
			checkTexts(t, s)
		}
	}
}

// P4.1: -0, and numbers below 0 that are too small.
func TestBelow(t *testing.T) {
	nought := math.Copysign(0, -1)
	checkPrefix(t, "-0", nought, 2)
	checkPrefix(t, " -.0e5x", nought, 6)
	checkPrefix(t, "-1e-400", nought, 7)
	checkPrefix(t, "+0", 0, 2)
	checkPrefix(t, "0", 0, 1)
	checkPrefix(t, "-1e400", math.Inf(-1), 6)
	checkPrefix(t, "-", 0, 0)
	checkPrefix(t, "-.e1", 0, 0)
	checkPrefix(t, "--1", 0, 0)
	checkPrefix(t, "- 1", 0, 0)
	checkLiteral(t, "-1", 0, 0)
	checkLiteral(t, "+1", 0, 0)
	checkLiteral(t, " 1", 0, 0)
	checkLiteral(t, "", 0, 0)
}

// P4.1: numerals with many digits, wherever the point stands.
func TestDigits(t *testing.T) {
	d := newDice(1)
	for range 3000 {
		s := d.digits(d.Below(30))
		if d.Below(3) > 0 {
			s += "." + d.digits(1+d.Below(30))
		}
		if d.Below(2) == 1 {
			s += "e" + strconv.Itoa(d.Below(700)-350)
		}
		checkTexts(t, s)
	}
	for _, n := range []int{700, 800, 1000, 1020, 1021, 1022, 1023, 1024, 1025, 1030, 2047, 2048, 2049, 3000} {
		s := "1" + d.digits(n-1)
		checkTexts(t, s)
		for _, at := range []int{0, 1, n / 2, n - 1, n} {
			checkTexts(t, s[:at]+"."+s[at:]+"e"+strconv.Itoa(150-at))
			checkTexts(t, strings.Repeat("0", at)+s+"e"+strconv.Itoa(-n-300))
		}
	}
}

// middle: the middle between a float and the next greater one, exactly.
func middle(x float64) *big.Float {
	far := new(big.Float).SetPrec(3000)
	far.Add(big.NewFloat(x), big.NewFloat(math.Nextafter(x, math.Inf(1))))
	return far.Mul(far, big.NewFloat(0.5))
}

// P4.1: the middle between two floats is read as the even one; a digit that isn't 0, however far behind, decides.
func TestMiddles(t *testing.T) {
	for _, x := range []float64{0, 5e-324, 1e-323, math.Nextafter(0x1p-1022, 0), 0x1p-1022, 1e-300, 0.1, 1, math.Nextafter(1, 2), 1.5, 9007199254740993, 1e22, 1e23, 1e300, math.Nextafter(math.MaxFloat64, 0)} {
		next := math.Nextafter(x, math.Inf(1))
		even := x
		if math.Float64bits(x)%2 == 1 {
			even = next
		}
		s := middle(x).Text('f', 1100)
		checkPrefix(t, s, even, len(s))
		checkLiteral(t, "00"+s, even, len(s)+2)
		for _, noughts := range []int{0, 1, 100, 900, 1024, 5000, 1 << 20} {
			zero := strings.Repeat("0", noughts)
			checkPrefix(t, s+zero, even, len(s)+noughts)
			checkPrefix(t, s+zero+"1", next, len(s)+noughts+1)
			checkPrefix(t, s+zero+"1"+zero, next, len(s)+2*noughts+1)
		}
		less := less(s)
		for _, nines := range []int{0, 1, 900, 1024, 5000} {
			checkPrefix(t, less+strings.Repeat("9", nines), x, len(s)+nines)
		}
	}
}

// less: a number with a point, less one in its last digit.
func less(s string) string {
	whole, frac, _ := strings.Cut(s, ".")
	n, _ := new(big.Int).SetString(whole+frac, 10)
	s = n.Sub(n, big.NewInt(1)).String()
	s = strings.Repeat("0", max(0, len(whole+frac)-len(s))) + s
	return s[:len(whole)] + "." + s[len(whole):]
}

// P4.1: exponents of many digits; a greater one than 100000 counts as 100000, a lesser one than -100000 as itself.
func TestExponents(t *testing.T) {
	zeros := func(n int) string { return strings.Repeat("0", n) }
	for _, c := range []struct {
		s    string
		want float64
	}{
		{"1e" + zeros(3000) + "5", 1e5}, {"1e-" + zeros(3000) + "5", 1e-5}, {"1e" + strings.Repeat("9", 3000), math.Inf(1)},
		{"1E-" + strings.Repeat("9", 3000), 0}, {"1e-" + strings.Repeat("9", 18), 0}, {"1e9223372036854775808", math.Inf(1)}, {"1e-9223372036854775808", 0},
		{"1e18446744073709551617", math.Inf(1)}, {"1e4294967297", math.Inf(1)}, {"0e" + strings.Repeat("9", 40), 0}, {"0.000e-" + strings.Repeat("9", 40), 0},
		{"0." + zeros(99998) + "1e99999", 1}, {"0." + zeros(99999) + "1e100000", 1}, {"0." + zeros(99999) + "1e100001", 1}, {"0." + zeros(99999) + "7e" + strings.Repeat("9", 40), 7},
		{"0." + zeros(99999) + "1e0100000", 1}, {"0." + zeros(100000) + "1e100001", 0.1}, {"0." + zeros(200000) + "1e200001", 0}, {"." + zeros(99700) + "1e+999999", 1e299},
		{"1" + zeros(99999) + "e-99999", 1}, {"1" + zeros(100000) + "e-100000", 1}, {"1" + zeros(100001) + "e-100001", 1}, {"3" + zeros(1<<20) + ".0e-1048577", 0.3},
		{strings.Repeat("9", 1<<20), math.Inf(1)}, {zeros(1<<20) + "2.5" + zeros(1<<20), 2.5}, {"." + zeros(1<<20) + "1", 0},
	} {
		checkPrefix(t, c.s, c.want, len(c.s))
		checkPrefix(t, "\n-"+c.s+" ", -c.want, len(c.s)+2)
		checkLiteral(t, c.s+"x", c.want, len(c.s))
		if !num.Looks(c.s+"\t") || num.Looks(c.s+"\r") {
			t.Errorf("Looks: %s", short(c.s))
		}
	}
}

// P4.1: no more than thirteen digits of base sixteen.
func TestSixteen(t *testing.T) {
	for _, c := range []struct {
		s    string
		want float64
		size int
	}{
		{"0x0", 0, 3}, {"0XaBcDeF", 0xabcdef, 8}, {"0x", 0, 1}, {"0X", 0, 1}, {"0xg", 0, 1}, {"0x.8", 0, 1}, {"00x1", 0, 2}, {"1x1", 1, 1}, {"0x1.8", 1, 3}, {"0x1p4", 1, 3},
		{"0x1e+5", 0x1e, 4}, {"0xffffffffffff", 1<<48 - 1, 14}, {"0xfffffffffffff", 1<<52 - 1, 15}, {"0xffffffffffffff", 1<<52 - 1, 15}, {"0x123456789abcdef01", 0x123456789abcd, 15},
		{"0x00000000000001", 0, 15}, {"0x" + strings.Repeat("8", 1<<20), 0x8888888888888, 15}, {" 0x1", 0, 0}, {"-0x1", 0, 0}, {"x1", 0, 0},
	} {
		checkLiteral(t, c.s, c.want, c.size)
	}
	d := newDice(2)
	for range 3000 {
		n := d.Next() >> d.Below(64)
		checkTexts(t, "0x"+strconv.FormatUint(n, 16))
		checkTexts(t, "0X"+strings.ToUpper(strconv.FormatUint(n, 16))+"h")
	}
}

// P4.1, P4.2: the digits of whole numbers are theirs, and are read as them; all other numbers have none.
func TestWhole(t *testing.T) {
	d := newDice(3)
	list := edges()
	for range 5000 {
		list = append(list, d.float(), d.near(), math.Floor(d.near()), float64(int64(d.Next()>>(9+d.Below(50)))))
	}
	for n := range 200 {
		list = append(list, float64(n-100), 1e16-float64(2*n), -1e16+float64(2*n), float64(1<<53+n-100))
	}
	for _, x := range list {
		got, ok := num.Whole(x)
		if !(math.Abs(x) < 1e16) || x != math.Floor(x) {
			if ok || got != "" {
				t.Fatalf("Whole(%v): %s, %t", x, got, ok)
			}
			continue
		}
		exact, _ := big.NewFloat(x).Int(nil)
		if !ok || got != exact.String() {
			t.Fatalf("Whole(%v): %s, %t", x, got, ok)
		}
		back, n := num.Prefix(got)
		if back != x || n != len(got) || !num.Looks(got) {
			t.Fatalf("Whole(%v): %s is read as %v, %d", x, got, back, n)
		}
	}
}

// P2: floats written with seventeen digits are read as themselves.
func TestThereAndBack(t *testing.T) {
	d := newDice(4)
	list := edges()
	for range 3000 {
		list = append(list, d.float(), d.near())
	}
	for _, x := range list {
		digits, power, e := dec.Sci(x, 16)
		if e != 0 {
			continue
		}
		s := digits[:1] + "." + digits[1:] + "e" + strconv.Itoa(power)
		checkPrefix(t, s, math.Abs(x), len(s))
		checkPrefix(t, "-"+s, -math.Abs(x), len(s)+1)
		checkLiteral(t, s, math.Abs(x), len(s))
	}
}

// P4.1: what stands behind the point goes, the sign stays.
func TestTrunc(t *testing.T) {
	d := newDice(5)
	list := edges()
	for range 5000 {
		list = append(list, d.float(), d.near())
	}
	for _, x := range list {
		want := x
		if math.Abs(x) < 1<<52 {
			want = math.Copysign(float64(int64(x)), x)
		}
		if got := num.Trunc(x); !probe.Same(got, want) {
			t.Fatalf("Trunc(%v): %v instead of %v", x, got, want)
		}
	}
}

// left: what Mod must be.
func left(x, y float64) float64 {
	switch {
	case math.IsNaN(x) || math.IsInf(x, 0) || math.IsNaN(y) || y == 0:
		return math.NaN()
	case math.IsInf(y, 0):
		return x
	}
	over, under := new(big.Rat).SetFloat64(x), new(big.Rat).SetFloat64(y)
	ratio := new(big.Rat).Quo(over, under)
	times := new(big.Rat).SetInt(new(big.Int).Quo(ratio.Num(), ratio.Denom()))
	rest, _ := over.Sub(over, times.Mul(times, under)).Float64()
	return math.Copysign(math.Abs(rest), x)
}

func checkMod(t *testing.T, x, y float64) {
	t.Helper()
	if got, want := num.Mod(x, y), left(x, y); !probe.Same(got, want) {
		t.Fatalf("Mod(%v, %v): %v instead of %v", x, y, got, want)
	}
}

// P4.1, P4.3: what is left is exact, for all floats and signs.
func TestMod(t *testing.T) {
	for _, x := range edges() {
		for _, y := range edges() {
			checkMod(t, x, y)
		}
	}
	d := newDice(6)
	for range 3000 {
		checkMod(t, d.float(), d.float())
		checkMod(t, d.near(), d.near())
		checkMod(t, d.float(), d.near())
	}
	for range 5000 {
		a, b := int64(d.Next()>>(11+d.Below(52))), int64(d.Next()>>(11+d.Below(52)))
		if b == 0 {
			continue
		}
		for _, signs := range [][2]int64{{1, 1}, {1, -1}, {-1, 1}, {-1, -1}} {
			x, y := signs[0]*a, signs[1]*b
			if got := num.Mod(float64(x), float64(y)); got != float64(x%y) {
				t.Fatalf("Mod(%d, %d): %v instead of %d", x, y, got, x%y)
			}
		}
	}
}

// power: what Pow must be of a good y, by the digits of base two as a text.
func power(x, y float64) float64 {
	digits := strconv.FormatInt(int64(math.Abs(y)), 2)
	got := 1.0
	for i := len(digits) - 1; i >= 0; i-- {
		if digits[i] == '1' {
			got = got * x
		}
		x = x * x
	}
	if y < 0 {
		got = 1 / got
	}
	return got
}

func checkPow(t *testing.T, x, y float64) {
	t.Helper()
	got, ok := num.Pow(x, y)
	if !(math.Abs(y) < 1<<53) || y != math.Floor(y) {
		if ok || !probe.Same(got, 0) {
			t.Fatalf("Pow(%v, %v): %v, %t", x, y, got, ok)
		}
		return
	}
	if want := power(x, y); !ok || !probe.Same(got, want) {
		t.Fatalf("Pow(%v, %v): %v, %t instead of %v", x, y, got, ok, want)
	}
}

// P4.1: powers are rounded product by product, in the order that is said; others than whole ones there are none.
func TestPow(t *testing.T) {
	for _, x := range edges() {
		for _, y := range edges() {
			checkPow(t, x, y)
		}
	}
	d := newDice(7)
	for range 5000 {
		checkPow(t, d.near(), float64(d.Below(80)-40))
		checkPow(t, 1+math.Ldexp(d.near(), -60), math.Floor(d.near()))
		checkPow(t, d.float(), float64(d.Below(7)-3))
		checkPow(t, d.near(), d.near())
	}
	// These differ by the way the products are made, and by where the division stands.
	for _, c := range []struct{ x, y, want float64 }{
		{0, 0, 1}, {math.NaN(), 0, 1}, {math.Inf(1), math.Copysign(0, -1), 1}, {0, -1, math.Inf(1)}, {math.Copysign(0, -1), -3, math.Inf(-1)}, {math.Copysign(0, -1), 3, math.Copysign(0, -1)},
		{math.Inf(-1), 3, math.Inf(-1)}, {math.Inf(-1), -3, math.Copysign(0, -1)}, {-1, 1<<53 - 1, -1}, {-1, 1<<53 - 2, 1}, {2, 1023, 0x1p1023}, {2, 1024, math.Inf(1)}, {2, -1022, 0x1p-1022}, {2, -1074, 0}, {0.5, 1074, 5e-324}, {10, -5, 1.0 / 100000},
	} {
		if got, ok := num.Pow(c.x, c.y); !ok || !probe.Same(got, c.want) {
			t.Errorf("Pow(%v, %v): %v, %t instead of %v", c.x, c.y, got, ok, c.want)
		}
	}
}

// P4.3: powers of small whole numbers are exact.
func TestExactPowers(t *testing.T) {
	bound := new(big.Int).Lsh(big.NewInt(1), 53)
	for x := int64(-40); x <= 40; x++ {
		want := big.NewInt(1)
		for y := 0; y <= 60 && want.CmpAbs(bound) <= 0; y++ {
			if got, ok := num.Pow(float64(x), float64(y)); !ok || got != float64(want.Int64()) {
				t.Fatalf("Pow(%d, %d): %v, %t instead of %s", x, y, got, ok, want)
			}
			want.Mul(want, big.NewInt(x))
		}
	}
}
