package cell_test

import (
	"bytes"
	"math"
	"regexp"
	"slices"
	"strconv"
	"strings"
	"testing"

	"thresher/api"
	"thresher/cell"
	"thresher/format"
	"thresher/num"
	"thresher/probe"
)

// letters: bytes that numbers are made of, and others.
const letters = " \t\n+-.0123456789eExaZ\x00\xff"

// valid: values that may be.
func valid() []api.Cell {
	list := []api.Cell{{}}
	for _, x := range probe.Floats() {
		list = append(list, cell.Of(x))
	}
	for _, s := range probe.Texts() {
		list = append(list, cell.Text(s), cell.Input(s))
	}
	return list
}

// signed: the grammar of a number in a text, told once more.
var signed = regexp.MustCompile(`^[ \t\n]*([-+]?(?:[0-9]+\.?[0-9]*|\.[0-9]+)(?:[eE][-+]?[0-9]+)?)([ \t\n]*$)?`)

// read: the number that a string counts as, and whether all of it looks like that.
func read(s string) (float64, bool) {
	m := signed.FindStringSubmatchIndex(s)
	if m == nil {
		return 0, false
	}
	x, _ := strconv.ParseFloat(s[m[2]:m[3]], 64)
	return x, m[4] >= 0
}

// number, text, truth: what a value must count as.
func number(c api.Cell) float64 {
	if c.Kind == api.Num || c.Kind == api.StrNum {
		return c.N
	}
	if c.Kind == api.Str {
		x, _ := read(c.S)
		return x
	}
	return 0
}

func text(c api.Cell, conv string) string {
	if c.Kind == api.Num {
		return format.Conv(c.N, conv)
	}
	if c.Kind == api.Str || c.Kind == api.StrNum {
		return c.S
	}
	return ""
}

func truth(c api.Cell) bool {
	if c.Kind == api.Str {
		return len(c.S) > 0
	}
	x := number(c)
	return math.IsNaN(x) || math.Abs(x) > 0
}

// order: what Compare must answer: NaN stands behind +Inf.
func order(a, b api.Cell, conv string) int {
	if a.Kind == api.Str || b.Kind == api.Str {
		return bytes.Compare([]byte(text(a, conv)), []byte(text(b, conv)))
	}
	x, y := number(a), number(b)
	all := []float64{x, y}
	slices.SortFunc(all, func(x, y float64) int {
		switch {
		case math.IsNaN(x) && math.IsNaN(y) || x == y:
			return 0
		case math.IsNaN(y) || x < y:
			return -1
		}
		return 1
	})
	isFirst := func(z float64) bool { return z == all[0] || math.IsNaN(z) && math.IsNaN(all[0]) }
	switch {
	case isFirst(x) && isFirst(y):
		return 0
	case isFirst(x):
		return -1
	}
	return 1
}

func checkCompare(t *testing.T, a, b api.Cell, conv string) {
	t.Helper()
	got, back := cell.Compare(a, b, conv), cell.Compare(b, a, conv)
	if want := order(a, b, conv); got != want || back != -want {
		t.Fatalf("Compare(%v, %v, %q): %d, and the other way round %d, instead of %d", a, b, conv, got, back, want)
	}
}

func checkCounts(t *testing.T, c api.Cell, conv string) {
	t.Helper()
	if got, want := cell.Number(c), number(c); !probe.Same(got, want) {
		t.Fatalf("Number(%v): %v instead of %v", c, got, want)
	}
	if got, want := cell.String(c, conv), text(c, conv); got != want {
		t.Fatalf("String(%v, %q): %q instead of %q", c, conv, got, want)
	}
	if got, want := cell.True(c), truth(c); got != want {
		t.Fatalf("True(%v): %v instead of %v", c, got, want)
	}
}

// checkMade holds what a call that makes values answers.
func checkMade(t *testing.T, got, want api.Cell) {
	t.Helper()
	if got.Kind != want.Kind || !probe.Same(got.N, want.N) || got.S != want.S || !cell.Valid(got) {
		t.Fatalf("%#v instead of %#v, which may be: %v", got, want, cell.Valid(got))
	}
}

// checkInput holds Input of a string against the grammar, and against what else is said of it.
func checkInput(t *testing.T, s string) {
	t.Helper()
	x, looks := read(s)
	want := api.Cell{Kind: api.Str, S: s}
	if looks {
		want = api.Cell{Kind: api.StrNum, N: x, S: s}
	}
	c := cell.Input(s)
	checkMade(t, c, want)
	if cell.String(c, "%d") != s || !probe.Same(cell.Number(c), cell.Number(cell.Text(s))) {
		t.Fatalf("Input(%q): the string %q, the number %v", s, cell.String(c, "%d"), cell.Number(c))
	}
}

// P6.1: the examples of the chapter.
func TestExamples(t *testing.T) {
	ten := cell.Input(" 10 ")
	checkMade(t, ten, api.Cell{Kind: api.StrNum, N: 10, S: " 10 "})
	if got := cell.Compare(ten, cell.Of(9), "%.6g"); got != 1 {
		t.Errorf("with the Num 9: %d", got)
	}
	if got := cell.Compare(ten, cell.Text("9"), "%.6g"); got != -1 {
		t.Errorf("with the Str 9: %d", got)
	}
	if a, b := cell.String(cell.Of(0.1), "%.3f"), cell.String(cell.Of(3), "%.3f"); a != "0.100" || b != "3" {
		t.Errorf("String: %q, %q", a, b)
	}
	if got := cell.Number(cell.Text("3x")); got != 3 {
		t.Errorf("Number: %v", got)
	}
	if !cell.True(cell.Text("0")) || cell.True(cell.Input("0")) {
		t.Error("True")
	}
}

// P6.1: what makes values.
func TestMade(t *testing.T) {
	for _, x := range probe.Floats() {
		checkMade(t, cell.Of(x), api.Cell{Kind: api.Num, N: x})
	}
	for _, s := range probe.Texts() {
		checkMade(t, cell.Text(s), api.Cell{Kind: api.Str, S: s})
	}
}

// P6.1, P6.3: all short strings of the bytes at which numbers turn, and longer ones.
func TestInput(t *testing.T) {
	for _, s := range probe.Texts() {
		checkInput(t, s)
	}
	probe.EachWord("", 5, strings.Split(" +-.07eEx", ""), func(s string) { checkInput(t, s) })
	for b := range 0x100 {
		one := string([]byte{byte(b)})
		for _, s := range []string{one, one + "1", "1" + one, "1" + one + "2", "1e" + one + "2"} {
			checkInput(t, s)
		}
	}
	d := probe.Dice(3)
	for range 50000 {
		checkInput(t, d.Word(8, letters))
	}
	checkInput(t, strings.Repeat(" ", 1<<20)+"1"+strings.Repeat("\t\n", 1<<20))
	checkInput(t, strings.Repeat("7", 1<<16))
	checkInput(t, strings.Repeat("\x00", 1<<20))
}

// P6.1: rows that show each rule.
func TestRows(t *testing.T) {
	for _, row := range []struct {
		c       api.Cell
		number  float64
		text    string
		counts  bool
		allowed bool
	}{
		{api.Cell{}, 0, "", false, true},
		{api.Cell{N: 5, S: "x"}, 0, "", false, false},
		{api.Cell{N: math.Copysign(0, -1)}, 0, "", false, false},
		{api.Cell{S: "x"}, 0, "", false, false},
		{api.Cell{Kind: api.Num}, 0, "0", false, true},
		{api.Cell{Kind: api.Num, N: math.Copysign(0, -1)}, math.Copysign(0, -1), "0", false, true},
		{api.Cell{Kind: api.Num, N: 5e-324}, 5e-324, "0.00", true, true},
		{api.Cell{Kind: api.Num, N: math.NaN()}, math.NaN(), "+nan", true, true},
		{api.Cell{Kind: api.Num, N: math.Inf(-1)}, math.Inf(-1), "-inf", true, true},
		{api.Cell{Kind: api.Num, N: 2.5, S: "x"}, 2.5, "2.50", true, false},
		{api.Cell{Kind: api.Str}, 0, "", false, true},
		{api.Cell{Kind: api.Str, S: " -3e1x"}, -30, " -3e1x", true, true},
		{api.Cell{Kind: api.Str, N: 7, S: "3"}, 3, "3", true, false},
		{api.Cell{Kind: api.Str, N: math.NaN(), S: "3"}, 3, "3", true, false},
		{api.Cell{Kind: api.Str, N: math.Copysign(0, -1), S: "-0"}, math.Copysign(0, -1), "-0", true, false},
		{api.Cell{Kind: api.StrNum, N: 3, S: " 3 "}, 3, " 3 ", true, true},
		{api.Cell{Kind: api.StrNum, N: 3, S: "3x"}, 3, "3x", true, false},
		{api.Cell{Kind: api.StrNum, N: 4, S: "3"}, 4, "3", true, false},
		{api.Cell{Kind: api.StrNum, S: "3"}, 0, "3", false, false},
		{api.Cell{Kind: api.StrNum}, 0, "", false, false},
		{api.Cell{Kind: api.StrNum, S: "x"}, 0, "x", false, false},
		{api.Cell{Kind: api.StrNum, S: "-0"}, 0, "-0", false, false},
		{api.Cell{Kind: api.StrNum, N: math.Copysign(0, -1), S: "-0"}, math.Copysign(0, -1), "-0", false, true},
		{api.Cell{Kind: api.StrNum, N: math.Copysign(0, -1), S: "0"}, math.Copysign(0, -1), "0", false, false},
		{api.Cell{Kind: api.StrNum, N: math.Inf(1), S: "1e999"}, math.Inf(1), "1e999", true, true},
		{api.Cell{Kind: api.StrNum, N: math.NaN(), S: "nan"}, math.NaN(), "nan", true, false},
		{api.Cell{Kind: 4, N: 5, S: "x"}, 0, "", false, false},
		{api.Cell{Kind: -1}, 0, "", false, false},
	} {
		c := row.c
		if got := cell.Number(c); !probe.Same(got, row.number) {
			t.Errorf("Number(%v): %v instead of %v", c, got, row.number)
		}
		if got := cell.String(c, "%.2f"); got != row.text {
			t.Errorf("String(%v): %q instead of %q", c, got, row.text)
		}
		if got := cell.True(c); got != row.counts {
			t.Errorf("True(%v): %v", c, got)
		}
		if got := cell.Valid(c); got != row.allowed {
			t.Errorf("Valid(%v): %v", c, got)
		}
	}
}

// P6.1: all kinds with all fields, and those that are none.
func TestCounts(t *testing.T) {
	for _, conv := range probe.Patterns() {
		for _, c := range slices.Concat(probe.Cells(), valid()) {
			checkCounts(t, c, conv)
		}
	}
}

// P6.1: a value may be, if a call that makes values makes it, or nothing was given to it.
func TestValid(t *testing.T) {
	for _, c := range slices.Concat(probe.Cells(), valid()) {
		want := false
		for _, made := range []api.Cell{{}, cell.Of(c.N), cell.Text(c.S), cell.Input(c.S)} {
			want = want || made.Kind == c.Kind && probe.Same(made.N, c.N) && made.S == c.S
		}
		if got := cell.Valid(c); got != want {
			t.Fatalf("Valid(%v): %v", c, got)
		}
	}
}

// P6.1, P6.2: Compare, each with each.
func TestCompare(t *testing.T) {
	all := slices.Concat(probe.Cells(), valid())
	for i, a := range all {
		for j, b := range all {
			if i%7 == j%7 || i >= len(all)-60 {
				checkCompare(t, a, b, probe.Patterns()[(i+j)%len(probe.Patterns())])
			}
		}
	}
	d := probe.Dice(5)
	for range 100000 {
		a := probe.Pick(&d, []api.Cell{cell.Of(math.Float64frombits(d.Next())), cell.Text(d.Word(8, letters)), cell.Input(d.Word(8, letters))})
		checkCompare(t, a, probe.Pick(&d, all), probe.Pick(&d, probe.Patterns()))
	}
}

// P6.1: how numbers are written tells how they compare with strings.
func TestComparePattern(t *testing.T) {
	for _, row := range []struct {
		a, b api.Cell
		conv string
		want int
	}{
		{cell.Of(0.15), cell.Text("0.2"), "%.6g", -1},
		{cell.Of(0.15), cell.Text("0.1"), "%.1g", 0},
		{cell.Of(0.15), cell.Text("0.15"), "%.1g", -1},
		{cell.Of(3), cell.Text("3"), "%.2f", 0},
		{cell.Of(0.5), cell.Of(0.25), "%d", 1},
		{cell.Of(0.5), cell.Input("0.50"), "%d", 0},
		{cell.Input("0.5"), cell.Text("0.50"), "%d", -1},
		{cell.Of(math.NaN()), cell.Text("+nan"), "%d", 0},
		{cell.Of(math.Inf(-1)), cell.Text("-inf"), "%d", 0},
		{api.Cell{}, cell.Text(""), "%d", 0},
		{api.Cell{}, cell.Text("\x00"), "%d", -1},
		{api.Cell{}, cell.Of(-1), "%d", 1},
		{api.Cell{Kind: 9, N: 3, S: "x"}, cell.Of(0), "%d", 0},
		{api.Cell{Kind: 9, N: 3, S: "x"}, cell.Text(""), "%d", 0},
		{cell.Of(0), cell.Of(math.Copysign(0, -1)), "%d", 0},
		{cell.Input("-0"), api.Cell{}, "%d", 0},
		{cell.Input("-0"), cell.Text("0"), "%d", -1},
		{cell.Text("ab"), cell.Text("abc"), "%d", -1},
		{cell.Text("a\xff"), cell.Text("a\x7fz"), "%d", 1},
		{cell.Of(math.NaN()), cell.Input("1e999"), "%d", 1},
	} {
		if got := cell.Compare(row.a, row.b, row.conv); got != row.want {
			t.Errorf("Compare(%v, %v, %q): %d instead of %d", row.a, row.b, row.conv, got, row.want)
		}
		checkCompare(t, row.a, row.b, row.conv)
	}
}

// P6.2: of numbers alone, and of strings alone, it is an order: what is put in order by it is so, each with each.
func TestOrder(t *testing.T) {
	d := probe.Dice(7)
	for _, strings := range []bool{false, true} {
		var list []api.Cell
		for _, c := range valid() {
			if (c.Kind == api.Str) == strings {
				list = append(list, c)
			}
		}
		for range 200 {
			c := cell.Of(math.Float64frombits(d.Next()))
			if strings {
				c = cell.Text(d.Word(8, letters))
			}
			list = append(list, c)
		}
		slices.SortStableFunc(list, func(a, b api.Cell) int { return cell.Compare(a, b, "%.6g") })
		for i, a := range list {
			for _, b := range list[i:] {
				if cell.Compare(a, b, "%.6g") > 0 || cell.Compare(b, a, "%.6g") < 0 {
					t.Fatalf("%v stands ahead of %v", a, b)
				}
			}
		}
	}
}

// P2: a float that is written with seventeen digits, and comes in, is that float.
func TestThereAndBack(t *testing.T) {
	d := probe.Dice(9)
	for i := range 20000 {
		x := math.Float64frombits(d.Next())
		if i < len(probe.Floats()) {
			x = probe.Floats()[i]
		}
		if math.IsNaN(x) || math.IsInf(x, 0) {
			continue
		}
		c := cell.Input(cell.String(cell.Of(x), "%.17g"))
		if c.Kind != api.StrNum || cell.Number(c) != x || cell.True(c) != (x != 0) || cell.Compare(c, cell.Of(x), "%d") != 0 {
			t.Fatalf("%v comes in as %v", x, c)
		}
	}
}

// R3, R8: what was handed in stays, and the same is answered each time.
func TestAgain(t *testing.T) {
	for _, c := range probe.Cells() {
		was := api.Cell{Kind: c.Kind, N: c.N, S: strings.Clone(c.S)}
		checkCounts(t, c, "%.3e")
		checkCounts(t, c, "%.3e")
		if c.Kind != was.Kind || !probe.Same(c.N, was.N) || c.S != was.S {
			t.Fatalf("%v became %v", was, c)
		}
	}
	if x, size := num.Prefix(cell.Input("12 ").S); x != 12 || size != 2 {
		t.Errorf("%v, %d", x, size)
	}
}
