package format_test

import (
	"math"
	"math/big"
	"regexp"
	"strconv"
	"strings"
	"testing"
	"unicode/utf8"

	"thresher/api"
	"thresher/format"
	"thresher/num"
	"thresher/probe"
)

// dice makes numbers and formats by chance.
type dice struct{ probe.Dice }

func newDice(seed uint64) *dice {
	return &dice{probe.Dice(seed)}
}

// float: one of any size; one not far from 1; a whole one; one with few digits.
func (d *dice) float() float64 {
	x := math.Float64frombits(d.Next() >> 1)
	switch d.Below(5) {
	case 0:
		x = math.Ldexp(float64(d.Next()>>(11+d.Below(52))), d.Below(120)-80)
	case 1:
		x = float64(d.Next() >> d.Below(64))
	case 2:
		x = float64(d.Below(20000)) / 16
	case 3:
		x = math.Pow(10, float64(d.Below(40)-20))
	}
	if d.Coin() {
		return -x
	}
	return x
}

// spec: one that Check takes, with this verb.
func (d *dice) spec(verb byte) api.Spec {
	p := api.Spec{Minus: d.Below(4) == 0, Plus: d.Coin(), Blank: d.Coin(), Alt: d.Coin(), Zero: d.Coin(), Prec: -1, Verb: verb}
	if d.Coin() {
		p.Width = d.Below(40)
	}
	if d.Coin() {
		p.Prec = d.Below(25)
	}
	return p
}

// edges: numbers at which writing turns, each with both signs.
func edges() []float64 {
	list := []float64{math.NaN(), math.Float64frombits(0xfff8000000000001)}
	for _, x := range []float64{0, 5e-324, 0x1p-1022, 1e-100, 1e-5, 0.00009999995, 0.000099999949, 1e-4, 0.1, 0.25, 0.5, math.Nextafter(0.5, 1), 0.95, math.Nextafter(1, 0), 1, 1.5, 2, 2.5, 3.5, 7, 8, 9.5, 9.96, 10, 15, 16, 63, 64, 99.5, 255, 4095.9, 99999, 99999.95, 999999, 999999.5, 999999.4999, 1e6, 1234567, 1 << 31, 1<<53 - 1, 1 << 53, 1e15, 1e16 - 2, 1e16, 1<<63 - 1024, 1 << 63, 1 << 64, 1e22, 1e23, 1e100, math.MaxFloat64, math.Inf(1)} {
		list = append(list, x, -x)
	}
	return list
}

// specs: all flags, with widths and precisions at which writing turns, and a verb.
func specs(verb byte) []api.Spec {
	var list []api.Spec
	for flags := range 32 {
		for _, width := range []int{0, 1, 7, api.MaxStr} {
			for _, prec := range []int{-1, 0, 1, 6, api.MaxPlaces} {
				list = append(list, api.Spec{Minus: flags&1 > 0, Plus: flags&2 > 0, Blank: flags&4 > 0, Alt: flags&8 > 0, Zero: flags&16 > 0, Width: width, Prec: prec, Verb: verb})
			}
		}
	}
	return list
}

// written: a part as its text.
func written(p api.Spec) string {
	s := "%"
	for _, flag := range []struct {
		on   bool
		text string
	}{{p.Minus, "-"}, {p.Plus, "+"}, {p.Blank, " "}, {p.Alt, "#"}, {p.Zero, "0"}} {
		if flag.on {
			s += flag.text
		}
	}
	if p.Width > 0 {
		s += strconv.Itoa(p.Width)
	}
	if p.Prec >= 0 {
		s += "." + strconv.Itoa(p.Prec)
	}
	return s + string(rune(p.Verb))
}

// grammar: that of a part, told once more.
const grammar = `%([-+ #0]*)([1-9][0-9]{0,4}|\*|)(\.(?:[0-9]{0,5}|\*)|)([dioxXueEfFgGcs%])`

var oneAhead = regexp.MustCompile(`^` + grammar)

// parsed: what Parse must answer.
func parsed(s string, at int) (api.Piece, api.Errno) {
	if at < 0 || at > len(s) {
		return api.Piece{}, api.ErrFormat
	}
	m := oneAhead.FindStringSubmatch(s[at:])
	if m == nil {
		return api.Piece{}, api.ErrFormat
	}
	flag := func(b string) bool { return strings.Contains(m[1], b) }
	p := api.Piece{StarW: m[2] == "*", StarP: m[3] == ".*", Next: at + len(m[0])}
	p.Spec = api.Spec{Minus: flag("-"), Plus: flag("+"), Blank: flag(" "), Alt: flag("#"), Zero: flag("0"), Prec: -1, Verb: m[4][0]}
	p.Spec.Width, _ = strconv.Atoi(m[2])
	if m[3] != "" {
		p.Spec.Prec, _ = strconv.Atoi(m[3][1:])
	}
	return p, api.OK
}

func checkParse(t *testing.T, s string, at int) {
	t.Helper()
	got, errno := format.Parse(s, at)
	if want, wanted := parsed(s, at); got != want || errno != wanted {
		t.Fatalf("Parse(%q, %d): %v and %d instead of %v and %d", s, at, got, errno, want, wanted)
	}
}

// checkNumber holds what Number answers to a part's text.
func checkNumber(t *testing.T, s string, x float64, want string) {
	t.Helper()
	p, errno := format.Parse(s, 0)
	if errno != api.OK || p.Next != len(s) {
		t.Fatalf("Parse(%q): %v, %d", s, p, errno)
	}
	if got, errno := format.Number(p.Spec, x); got != want || errno != api.OK {
		t.Fatalf("Number(%s, %v): %q and %d instead of %q", s, x, got, errno, want)
	}
}

func checkConv(t *testing.T, x float64, pattern, want string) {
	t.Helper()
	if got := format.Conv(x, pattern); got != want {
		t.Fatalf("Conv(%v, %q): %q instead of %q", x, pattern, got, want)
	}
}

// P5.1: the examples of the chapter.
func TestExamples(t *testing.T) {
	checkNumber(t, "%+08.2f", 3.14159, "+0003.14")
	checkNumber(t, "%.0d", 0, "")
	checkNumber(t, "%#X", 255, "0XFF")
	checkNumber(t, "%g", 100000, "100000")
	checkNumber(t, "%g", 1000000, "1e+06")
	checkNumber(t, "%g", 0.00001, "1e-05")
	checkNumber(t, "%.0f", 2.5, "2")
	checkNumber(t, "%5d", math.NaN(), " +nan")
	checkConv(t, 3, "%.2f", "3")
	checkConv(t, 3.14159, "%.2f", "3.14")
	checkConv(t, 0.5, "%d%d", "0.5")
}

// P5.1: all short texts of the bytes at which parts turn, from every place on.
func TestParse(t *testing.T) {
	all := func(s string) {
		for at := -1; at <= len(s)+1; at++ {
			checkParse(t, s, at)
		}
	}
	probe.EachWord("", 5, strings.Split("%-0.*5dq", ""), all)
	probe.EachWord("%", 4, strings.Split("-+ #0.*19g%", ""), all)
	probe.EachWord("%", 4, []string{"0", "1", "12", "12345", "99999", "00000", ".", "*", "+", "s"}, all)
	for b := range 0x100 {
		one := string([]byte{byte(b)})
		for _, s := range []string{one, "%" + one, "%" + one + "d", "%5" + one, "%5" + one + "d", "%." + one, "%.5" + one + "i", one + "d", "%*" + one + "u", "%.*" + one + "c"} {
			all(s)
		}
	}
	for _, at := range []int{math.MinInt, -2, 3, math.MaxInt} {
		checkParse(t, "%d", at)
	}
}

// P5.1, R4: parts of many flags and digits.
func TestLongParts(t *testing.T) {
	checkParse(t, "%"+strings.Repeat("-+ #0", 1<<16)+"12345.00099X", 0)
	checkParse(t, "%"+strings.Repeat("0", 1<<20)+"123456d", 0)
	checkParse(t, "%99999.99999s", 0)
	checkParse(t, "%100000s", 0)
	checkParse(t, "%.000000s", 0)
	checkParse(t, "%5*d", 0)
	checkParse(t, "%*5d", 0)
	checkParse(t, "%.*5d", 0)
	checkParse(t, "%.-5d", 0)
	checkParse(t, "%5-d", 0)
	checkParse(t, "%..5d", 0)
	checkParse(t, "%5.5.5d", 0)
	checkParse(t, "%ld", 0)
	checkParse(t, "%1$d", 0)
}

// checkRefused holds that a value can't be written so.
func checkRefused(t *testing.T, p api.Spec, number, text bool) {
	t.Helper()
	if s, errno := format.Number(p, 5); number == (errno == api.OK) || number && (s != "" || errno != api.ErrFormat) {
		t.Fatalf("Number(%v): %q, %d", p, s, errno)
	}
	for _, bytes := range []bool{false, true} {
		if s, errno := format.Text(p, "a", bytes); text == (errno == api.OK) || text && (s != "" || errno != api.ErrFormat) {
			t.Fatalf("Text(%v): %q, %d", p, s, errno)
		}
	}
}

// P5.1: what Check refuses, the others refuse too; and the verbs that aren't theirs.
func TestCheck(t *testing.T) {
	for b := range 0x100 {
		verb := byte(b)
		known := strings.IndexByte("dioxXueEfFgGcs%", verb) >= 0
		texts := verb == 'c' || verb == 's'
		for _, width := range []int{math.MinInt, -1, 0, 1, api.MaxStr, api.MaxStr + 1, 99999, math.MaxInt} {
			for _, prec := range []int{math.MinInt, -2, -1, 0, 1, api.MaxPlaces, api.MaxPlaces + 1, api.MaxPrec, 99999, math.MaxInt} {
				p := api.Spec{Minus: b&1 > 0, Zero: b&2 > 0, Alt: b&4 > 0, Width: width, Prec: prec, Verb: verb}
				want := api.ErrFormat
				if known && width >= 0 && width <= 1024 && prec >= -1 && prec <= 190 {
					want = api.OK
				}
				if got := format.Check(p); got != want {
					t.Fatalf("Check(%v): %d instead of %d", p, got, want)
				}
				refused := want != api.OK
				checkRefused(t, p, refused || texts || verb == '%', refused || !texts)
			}
		}
	}
}

// P5.1: rows that show each rule.
func TestRows(t *testing.T) {
	for _, row := range []struct {
		part string
		x    float64
		want string
	}{
		{"%d", -3.9, "-3"}, {"%d", -0.9, "0"}, {"%+d", -0.9, "+0"}, {"% d", 5, " 5"}, {"%+ d", 5, "+5"}, {"% +d", -5, "-5"}, {"%05d", -42, "-0042"}, {"%+05i", 42, "+0042"}, {"% 05i", 42, " 0042"}, {"%-05d", 42, "42   "}, {"%05.1d", 42, "   42"}, {"%8.5d", -42, "  -00042"}, {"%#d", 42, "42"}, {"%.0d", 0.5, ""}, {"%+.0d", 0, "+"}, {"%3.0d", 0, "   "}, {"%03.0d", 0, "   "}, {"%.d", 7, "7"}, {"%d", 1e23, "99999999999999991611392"},
		{"%o", 8, "10"}, {"%#o", 8, "010"}, {"%#.3o", 8, "010"}, {"%#.4o", 8, "0010"}, {"%#.1o", 8, "010"}, {"%#o", 0, "0"}, {"%#.0o", 0, "0"}, {"%.0o", 0, ""}, {"%#.2o", 0, "00"}, {"%#o", -8, "-010"}, {"%#05o", -8, "-0010"}, {"%+o", 8, "10"}, {"% o", 8, "10"}, {"%o", 1e20, "12657072742654304000000"}, {"%#o", -0.5, "0"}, {"%.0o", -0.5, ""},
		{"%x", -255.9, "-ff"}, {"%+x", 255, "ff"}, {"%#x", -255, "-0xff"}, {"%#010x", -255, "-0x00000ff"}, {"%#10.4x", 255, "    0x00ff"}, {"%#010.4X", 255, "    0X00FF"}, {"%-#8x", 255, "0xff    "}, {"%#x", 0, "0"}, {"%#x", 0.9, "0"}, {"%#.0x", 0, ""}, {"%#.3x", 0, "000"}, {"%#05x", 0, "00000"}, {"%x", 1e20, "56bc75e2d63100000"}, {"%X", 0xabcdef, "ABCDEF"},
		{"%u", 3.7, "3"}, {"%+u", 3, "3"}, {"% u", 3, "3"}, {"%u", -3, "-3"}, {"%04u", -3, "-003"}, {"%#u", 3, "3"},
		{"%f", 2.5, "2.500000"}, {"%.0f", 2.5, "2"}, {"%.f", 3.5, "4"}, {"%#.0f", 3.5, "4."}, {"%#.1f", 3.5, "3.5"}, {"%+f", 0, "+0.000000"}, {"% F", 1, " 1.000000"}, {"%+.0f", -0.2, "-0"}, {"%f", math.Copysign(0, -1), "-0.000000"}, {"%08.2f", -3.14159, "-0003.14"}, {"%-08.2f", 3.14159, "3.14    "}, {"%.20f", 0.1, "0.10000000000000000555"}, {"%.1F", 1e22, "10000000000000000000000.0"},
		{"%e", 12345.678, "1.234568e+04"}, {"%.0e", 5, "5e+00"}, {"%#.0e", 5, "5.e+00"}, {"%.0e", 9.5, "1e+01"}, {"%.0e", 2.5, "2e+00"}, {"%E", 1e-100, "1.000000E-100"}, {"%e", 0, "0.000000e+00"}, {"%.1e", math.Copysign(0, -1), "-0.0e+00"}, {"%+.2e", 1e9, "+1.00e+09"}, {"%.2e", 1e10, "1.00e+10"}, {"%.2e", 1e-9, "1.00e-09"}, {"%.2e", 1e-10, "1.00e-10"}, {"%012.2e", -1e99, "-0001.00e+99"}, {"%.2E", 1e100, "1.00E+100"},
		{"%g", 0.0001, "0.0001"}, {"%g", 0.000099999949, "9.99999e-05"}, {"%g", 0.000099999951, "0.0001"}, {"%g", 999999, "999999"}, {"%g", 999999.5, "1e+06"}, {"%#g", 999999.5, "1.00000e+06"}, {"%g", 999999.4999, "999999"}, {"%#g", 1, "1.00000"}, {"%#.1g", 1, "1."}, {"%#.0g", 1, "1."}, {"%#.1g", 10, "1.e+01"}, {"%#g", 100000, "100000."}, {"%.3G", 1234567, "1.23E+06"}, {"%.10g", 0.5, "0.5"}, {"%.10g", 100, "100"}, {"%.1g", 100, "1e+02"}, {"%g", 0, "0"}, {"%#g", 0, "0.00000"}, {"%.0g", 15, "2e+01"}, {"%.0g", 0.5, "0.5"}, {"%g", math.Copysign(0, -1), "-0"}, {"%+g", 1.5, "+1.5"}, {"% G", 1.5, " 1.5"}, {"%08g", -1.5, "-00001.5"}, {"%08.3g", 1.5, "000001.5"}, {"%.20g", 1e20, "1e+20"}, {"%.21g", 1e20, "100000000000000000000"}, {"%G", 1e-7, "1E-07"},
		{"%X", math.NaN(), "+nan"}, {"%-6E", math.Inf(-1), "-inf  "}, {"%06G", math.Inf(1), "  +inf"}, {"% F", math.Inf(1), "+inf"}, {"%.0d", math.NaN(), "+nan"}, {"%#5x", math.Inf(-1), " -inf"}, {"%.1g", math.Inf(1), "+inf"}, {"%4u", math.NaN(), "+nan"},
	} {
		checkNumber(t, row.part, row.x, row.want)
	}
}

// core: a number that isn't infinite by the rules of its verb, without a sign and what is put in: what stands ahead of the digits, and they.
func core(p api.Spec, x float64) (string, string) {
	x = math.Abs(x)
	if strings.IndexByte("eEfFgG", p.Verb) >= 0 {
		return "", pointed(p, x)
	}
	n, _ := big.NewFloat(x).Int(nil)
	base := map[byte]int{'o': 8, 'x': 16, 'X': 16}[p.Verb]
	digits := n.Text(max(base, 10-10*base))
	if p.Prec == 0 && n.Sign() == 0 {
		digits = ""
	}
	if p.Verb == 'o' && p.Alt && (n.Sign() != 0 || digits == "") {
		digits = "0" + digits
	}
	for len(digits) < p.Prec {
		digits = "0" + digits
	}
	if base == 16 && p.Alt && n.Sign() != 0 {
		return "0x", digits
	}
	return "", digits
}

// pointed: the same of the verbs with a point.
func pointed(p api.Spec, x float64) string {
	prec := p.Prec
	if prec < 0 {
		prec = 6
	}
	switch p.Verb {
	case 'f', 'F':
		return dotted(strconv.FormatFloat(x, 'f', prec, 64), p.Alt)
	case 'e', 'E':
		return dotted(strconv.FormatFloat(x, 'e', prec, 64), p.Alt)
	}
	if !p.Alt {
		return strconv.FormatFloat(x, 'g', prec, 64)
	}
	prec = max(prec, 1)
	sci := strconv.FormatFloat(x, 'e', prec-1, 64)
	_, mark, _ := strings.Cut(sci, "e")
	power, _ := strconv.Atoi(mark)
	if power < -4 || power >= prec {
		return dotted(sci, true)
	}
	return dotted(strconv.FormatFloat(x, 'f', prec-1-power, 64), true)
}

// dotted: digits with a point behind them, or ahead of the power, if they shall have one and don't.
func dotted(s string, point bool) string {
	if !point || strings.Contains(s, ".") {
		return s
	}
	digits, mark, ok := strings.Cut(s, "e")
	if !ok {
		return digits + "."
	}
	return digits + ".e" + mark
}

// number: what Number must answer, of what Check takes.
func number(p api.Spec, x float64) string {
	if math.IsNaN(x) {
		return padded(p, "", "+nan", false)
	}
	if math.IsInf(x, 0) {
		return padded(p, "", map[bool]string{true: "+inf", false: "-inf"}[x > 0], false)
	}
	ahead, digits := core(p, x)
	whole := strings.IndexByte("dioxXu", p.Verb) >= 0
	switch {
	case whole && x <= -1, !whole && math.Signbit(x):
		ahead = "-" + ahead
	case strings.IndexByte("oxXu", p.Verb) >= 0:
	case p.Plus:
		ahead = "+" + ahead
	case p.Blank:
		ahead = " " + ahead
	}
	if strings.IndexByte("XEFG", p.Verb) >= 0 {
		ahead, digits = strings.ToUpper(ahead), strings.ToUpper(digits)
	}
	return padded(p, ahead, digits, p.Zero && (!whole || p.Prec < 0))
}

// padded: as wide as the width, with noughts in the middle or blanks at a side.
func padded(p api.Spec, ahead, digits string, noughts bool) string {
	room := max(0, p.Width-len(ahead)-len(digits))
	switch {
	case p.Minus:
		return ahead + digits + strings.Repeat(" ", room)
	case noughts:
		return ahead + strings.Repeat("0", room) + digits
	}
	return strings.Repeat(" ", room) + ahead + digits
}

func checkModel(t *testing.T, p api.Spec, x float64) {
	t.Helper()
	got, errno := format.Number(p, x)
	if want := number(p, x); got != want || errno != api.OK {
		t.Fatalf("Number(%s, %v): %q and %d instead of %q", written(p), x, got, errno, want)
	}
}

const numberVerbs = "dioxXueEfFgG"

// P5.1: all flags and verbs, with numbers, widths and precisions at the edges, and with others.
func TestNumbers(t *testing.T) {
	for _, verb := range []byte(numberVerbs) {
		for _, p := range specs(verb) {
			for _, x := range []float64{0, math.Copysign(0, -1), 0.5, -0.5, 8, -255, 999999.5, 1e100, math.NaN(), math.Inf(-1)} {
				checkModel(t, p, x)
			}
		}
		for _, prec := range []int{-1, 0, 1, 2, 5, 6, 7, 16, 17, 25, api.MaxPlaces} {
			for _, x := range edges() {
				checkModel(t, api.Spec{Prec: prec, Verb: verb}, x)
				checkModel(t, api.Spec{Plus: true, Alt: true, Zero: true, Width: 12, Prec: prec, Verb: verb}, x)
			}
		}
	}
	d := newDice(1)
	for range 100000 {
		checkModel(t, d.spec(numberVerbs[d.Below(len(numberVerbs))]), d.float())
	}
}

// P5.2: as wide as the width, at least; put in are blanks or noughts alone.
func TestWidths(t *testing.T) {
	d := newDice(2)
	list := edges()
	for range 20000 {
		p := d.spec(numberVerbs[d.Below(len(numberVerbs))])
		p.Width = d.Below(60)
		if d.Below(50) == 0 {
			p.Width = api.MaxStr - d.Below(3)
		}
		x := d.float()
		if d.Below(3) == 0 {
			x = list[d.Below(len(list))]
		}
		narrow := p
		narrow.Width = 0
		bare, _ := format.Number(narrow, x)
		wide, errno := format.Number(p, x)
		if errno != api.OK || len(wide) != max(len(bare), p.Width) {
			t.Fatalf("Number(%s, %v): %q and %d instead of %d bytes", written(p), x, wide, errno, p.Width)
		}
		if !putIn(p, wide, bare) {
			t.Fatalf("Number(%s, %v): %q is not %q with blanks or noughts", written(p), x, wide, bare)
		}
	}
}

// putIn: is the wide text the bare one with blanks at a side, or with noughts within?
func putIn(p api.Spec, wide, bare string) bool {
	room := len(wide) - len(bare)
	blanks, noughts := strings.Repeat(" ", room), strings.Repeat("0", room)
	if p.Minus {
		return wide == bare+blanks
	}
	if wide == blanks+bare {
		return true
	}
	for at := range min(4, len(bare)) {
		if wide == bare[:at]+noughts+bare[at:] {
			return p.Zero
		}
	}
	return false
}

// P5.3, P2: seventeen digits are read as the float they are of.
func TestThereAndBack(t *testing.T) {
	d := newDice(3)
	list := edges()
	for range 10000 {
		list = append(list, d.float())
	}
	for _, x := range list {
		if math.IsNaN(x) || math.IsInf(x, 0) {
			continue
		}
		for _, s := range []string{"%.16e", "%.17G", "%#.17G", "%+30.16e", "%-+#30.17G"} {
			p, _ := format.Parse(s, 0)
			text, errno := format.Number(p.Spec, x)
			back, err := strconv.ParseFloat(strings.TrimSpace(text), 64)
			if errno != api.OK || err != nil || math.Float64bits(back) != math.Float64bits(x) {
				t.Fatalf("Number(%s, %v): %q and %d is read as %v", s, x, text, errno, back)
			}
			if read, _ := num.Prefix(text); math.Float64bits(read) != math.Float64bits(x) {
				t.Fatalf("Number(%s, %v): %q is taken as %v", s, x, text, read)
			}
		}
	}
}

// characters: a string's, one by one.
func characters(s string, bytes bool) []string {
	var list []string
	for s != "" {
		size := 1
		if !bytes {
			_, size = utf8.DecodeRuneInString(s)
		}
		list = append(list, s[:size])
		s = s[size:]
	}
	return list
}

// text: what Text must answer, of what it takes.
func text(p api.Spec, s string, bytes bool) string {
	list := characters(s, bytes)
	if p.Verb == 's' && p.Prec >= 0 && p.Prec < len(list) {
		list = list[:p.Prec]
	}
	blanks := strings.Repeat(" ", max(0, p.Width-len(list)))
	if p.Minus {
		return strings.Join(list, "") + blanks
	}
	return blanks + strings.Join(list, "")
}

func checkText(t *testing.T, p api.Spec, s string) {
	t.Helper()
	for _, bytes := range []bool{false, true} {
		got, errno := format.Text(p, s, bytes)
		if want := text(p, s, bytes); got != want || errno != api.OK {
			t.Fatalf("Text(%s, %q, %t): %q and %d instead of %q", written(p), s, bytes, got, errno, want)
		}
	}
}

// P5.1: strings are cut and padded by characters; of c no precision cuts.
func TestTexts(t *testing.T) {
	pieces := []string{"a", "\xc3\xa9", "\xe2\x82\xac", "\xf0\x9f\x98\x80", "\xff", "\xc3", "\x80", "\x00", "%", " "}
	for _, verb := range []byte("sc") {
		probe.EachWord("", 3, pieces, func(s string) {
			for _, width := range []int{0, 1, 2, 3, 4, 13} {
				for _, prec := range []int{-1, 0, 1, 2, 3, 4, 12} {
					checkText(t, api.Spec{Zero: true, Width: width, Prec: prec, Verb: verb}, s)
					checkText(t, api.Spec{Minus: true, Plus: true, Blank: true, Alt: true, Width: width, Prec: prec, Verb: verb}, s)
				}
			}
		})
		long := strings.Repeat("\xe2\x82\xac", 2000)
		for _, p := range specs(verb) {
			checkText(t, p, "")
			checkText(t, p, "ab\xc3\xa9\xff")
			checkText(t, p, long)
		}
	}
}

var (
	everyPart = regexp.MustCompile(grammar)
	onlyParts = regexp.MustCompile(`^(?s:[^%]|` + grammar + `)*$`)
)

// conv: what Conv must answer.
func conv(x float64, pattern string) string {
	if digits, ok := num.Whole(x); ok {
		return digits
	}
	if math.IsNaN(x) || math.IsInf(x, 0) {
		return number(api.Spec{Prec: -1, Verb: 'd'}, x)
	}
	numbers, good := 0, onlyParts.MatchString(pattern)
	out := everyPart.ReplaceAllStringFunc(pattern, func(part string) string {
		p, errno := parsed(part, 0)
		if p.Spec.Verb == '%' {
			good = good && !p.StarW && !p.StarP
			return "%"
		}
		numbers++
		if errno != api.OK || p.StarW || p.StarP || strings.IndexByte("cs", p.Spec.Verb) >= 0 || p.Spec.Width > 1024 || p.Spec.Prec > 190 {
			good = false
			return ""
		}
		return number(p.Spec, x)
	})
	if good && numbers == 1 {
		return out
	}
	return strconv.FormatFloat(x, 'g', 6, 64)
}

// P5.1: numbers as strings, by right patterns and by wrong ones.
func TestConv(t *testing.T) {
	pieces := []string{"%d", "%.3f", "%%", "%", "a", "5", "*", ".", "s", "\xff", "%08.2e", "%-9.%", "%99999.99999%", "%*%", "%.*%", "%1025d", "%.191f", "%1024g", "%c"}
	probe.EachWord("", 3, pieces, func(s string) {
		for _, x := range []float64{0.5, -1234.5678, 1e16} {
			checkConv(t, x, s, conv(x, s))
		}
	})
	for _, x := range edges() {
		for _, s := range []string{"", "%d", "%.6g", "%.30g", "<%+e>", "%s", "%", "no", "%x%%", "%c", "%5%"} {
			checkConv(t, x, s, conv(x, s))
		}
	}
	d := newDice(4)
	for range 20000 {
		x, p := d.float(), d.spec(numberVerbs[d.Below(len(numberVerbs))])
		checkConv(t, x, written(p), conv(x, written(p)))
	}
}

// P5.1: rows for numbers as strings.
func TestConvRows(t *testing.T) {
	for _, row := range []struct {
		x             float64
		pattern, want string
	}{
		{math.Copysign(0, -1), "%.2f", "0"}, {-1e15, "%d%d", "-1000000000000000"}, {1e16, "%.6g", "1e+16"}, {1e16, "%d", "10000000000000000"}, {1e20, "%.3e", "1.000e+20"}, {math.Inf(1), "<%d>", "+inf"}, {math.Inf(-1), "%9d", "-inf"}, {math.NaN(), "", "+nan"},
		{0.25, "<%g%%>", "<0.25%>"}, {0.25, "%-5%%g%9.3%", "%0.25%"}, {0.25, "%99999%%g", "%0.25"}, {0.25, "%*%%g", "0.25"}, {0.25, "%.*%%g", "0.25"}, {0.25, "%*g", "0.25"}, {0.25, "%.*f", "0.25"}, {0.25, "", "0.25"}, {0.25, "%%", "0.25"}, {0.25, "%s", "0.25"}, {0.25, "%c", "0.25"}, {0.25, "%s%e", "0.25"}, {0.25, "%e%s", "0.25"}, {0.25, "%e%", "0.25"}, {0.25, "%q%e", "0.25"}, {0.25, "%1025f", "0.25"}, {0.25, "%.191f", "0.25"}, {0.25, "%e%1025f", "0.25"}, {0.25, "%100000%%e", "0.25"},
		{1234567.5, "none", "1.23457e+06"}, {0.75, "x = %d y", "x = 0 y"}, {-0.75, "%5.1f|", " -0.8|"},
	} {
		checkConv(t, row.x, row.pattern, row.want)
	}
}

// P1: long patterns and texts end soon.
func TestLong(t *testing.T) {
	const many = 1 << 20
	checkConv(t, 0.5, strings.Repeat("%%", many)+"%g", strings.Repeat("%", many)+"0.5")
	checkConv(t, 0.5, "%g"+strings.Repeat("a%-+ #05.%", many), "0.5"+strings.Repeat("a%", many))
	checkConv(t, 0.5, "%"+strings.Repeat("0", many)+"5.1f"+strings.Repeat("%%", many)+"%", "0.5")
	checkConv(t, 0.5, "%"+strings.Repeat("-", many), "0.5")
	checkConv(t, 0.5, strings.Repeat("%g", many), "0.5")
	checkText(t, api.Spec{Width: api.MaxStr, Prec: api.MaxPlaces, Verb: 's'}, strings.Repeat("\xc3\xa9", many))
	checkText(t, api.Spec{Width: api.MaxStr, Prec: -1, Verb: 'c'}, strings.Repeat("\xff", many))
}
