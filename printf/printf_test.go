package printf_test

import (
	"math"
	"regexp"
	"slices"
	"strconv"
	"strings"
	"testing"
	"unicode/utf8"
	"unsafe"

	"thresher/api"
	"thresher/cell"
	"thresher/format"
	"thresher/printf"
	"thresher/probe"
)

// usual: characters, and numbers as they mostly are written; bytewise: the same in byte mode.
var (
	usual    = printf.Way{Conv: "%.6g"}
	bytewise = printf.Way{Conv: "%.6g", Bytes: true}
)

// ahead: the run of other bytes, or the part, that a format begins with; told once more.
var ahead = regexp.MustCompile(`^(?s:[^%]+|(%[-+ #0]*)(\*|[0-9]{0,5})(\.(?:\*|[0-9]{0,5})|)([dioxXueEfFgGcs%]))`)

// amount: a value as a width or a precision.
func amount(c api.Cell) int {
	x := cell.Number(c)
	switch {
	case x > 2000:
		return 2000
	case x < -2000:
		return -2000
	case math.IsNaN(x):
		return 0
	}
	return int(x)
}

// laidOut: a part with digits in the place of each `*`, and the values that are left; false, if one is missing.
func laidOut(m []string, args []api.Cell) (string, []api.Cell, bool) {
	width, prec := m[2], m[3]
	if width == "*" {
		if len(args) == 0 {
			return "", nil, false
		}
		width = ""
		// A 0 would be the flag.
		if n := amount(args[0]); n != 0 {
			width = strconv.Itoa(n)
		}
		args = args[1:]
	}
	if prec == ".*" {
		if len(args) == 0 {
			return "", nil, false
		}
		prec = ""
		if n := amount(args[0]); n >= 0 {
			prec = "." + strconv.Itoa(n)
		}
		args = args[1:]
	}
	return m[1] + width + prec + m[4], args, true
}

// character: the one that a value stands for.
func character(c api.Cell, bytes bool) string {
	if c.Kind == api.Num || c.Kind == api.StrNum {
		n := cell.Number(c)
		if !(n > -1 && n < 1<<31) {
			n = 0
		}
		if r := rune(n); !bytes && utf8.ValidRune(r) {
			return string(r)
		}
		return string([]byte{byte(uint32(n) % 256)})
	}
	size := min(1, len(c.S))
	if !bytes {
		_, size = utf8.DecodeRuneInString(c.S)
	}
	return c.S[:size]
}

// one: what a part writes, which has digits alone for its width and precision.
func one(part string, c api.Cell, w printf.Way) (string, bool) {
	p, errno := format.Parse(part, 0)
	if errno != api.OK || p.StarW || p.StarP || p.Next != len(part) {
		return "", false
	}
	text := "%"
	switch p.Spec.Verb {
	case '%':
		return text, p.Spec.Width <= 1024 && p.Spec.Prec <= 190
	case 's':
		text, errno = format.Text(p.Spec, cell.String(c, w.Conv), w.Bytes)
	case 'c':
		text, errno = format.Text(p.Spec, character(c, w.Bytes), w.Bytes)
	default:
		text, errno = format.Number(p.Spec, cell.Number(c))
	}
	return text, errno == api.OK
}

// wanted: what Sprintf must answer.
func wanted(f string, args []api.Cell, w printf.Way) (string, api.Errno) {
	out := ""
	for f != "" {
		m := ahead.FindStringSubmatch(f)
		if m == nil {
			return "", api.ErrFormat
		}
		f = f[len(m[0]):]
		text := m[0]
		if m[4] != "" {
			part, left, ok := laidOut(m, args)
			if !ok || m[4] != "%" && len(left) == 0 {
				return "", api.ErrFormat
			}
			var c api.Cell
			if m[4] != "%" {
				c, left = left[0], left[1:]
			}
			args = left
			if text, ok = one(part, c, w); !ok {
				return "", api.ErrFormat
			}
		}
		out += text
		if len(out) > 1024 {
			return "", api.ErrLong
		}
	}
	return out, api.OK
}

func checkRow(t *testing.T, f string, args []api.Cell, w printf.Way, want string, errno api.Errno) {
	t.Helper()
	if got, e := printf.Sprintf(f, args, w); got != want || e != errno {
		t.Fatalf("Sprintf(%.100q, %v, %v): %q and %d instead of %q and %d", f, args, w, got, e, want, errno)
	}
}

// checkModel holds what Sprintf answers in both modes, and tells whether the format is right.
func checkModel(t *testing.T, f string, args []api.Cell, conv string) bool {
	t.Helper()
	right := false
	for _, w := range []printf.Way{{Conv: conv}, {Conv: conv, Bytes: true}} {
		want, errno := wanted(f, args, w)
		checkRow(t, f, args, w, want, errno)
		right = errno == api.OK
	}
	return right
}

func nums(list ...float64) []api.Cell {
	var cells []api.Cell
	for _, x := range list {
		cells = append(cells, cell.Of(x))
	}
	return cells
}

func inputs(list ...string) []api.Cell {
	var cells []api.Cell
	for _, s := range list {
		cells = append(cells, cell.Input(s))
	}
	return cells
}

// P11.1: the examples of the chapter.
func TestExamples(t *testing.T) {
	args := []api.Cell{cell.Of(4), cell.Text("ab"), cell.Text("1.005x"), cell.Of(233), cell.Text("xy")}
	checkRow(t, "%-*s|%.2f%%%c%c", args, usual, "ab  |1.00%\xc3\xa9x", api.OK)
	checkRow(t, "%d", nil, usual, "", api.ErrFormat)
	checkRow(t, "%1000d%1000d", nums(1, 2), usual, "", api.ErrLong)
}

// P11.1: a width and a precision that come as values.
func TestStars(t *testing.T) {
	inf, less := math.Inf(1), math.Copysign(0, -1)
	for _, row := range []struct {
		f    string
		args []api.Cell
		want string
		e    api.Errno
	}{
		{"%*d|", nums(4, 7), "   7|", api.OK}, {"%*d|", nums(-4, 7), "7   |", api.OK}, {"%-*d|", nums(4, 7), "7   |", api.OK}, {"%-*d|", nums(-4, 7), "7   |", api.OK}, {"%0*d|", nums(4, 7), "0007|", api.OK}, {"%0*d|", nums(-4, 7), "7   |", api.OK}, {"%*d|", nums(0, 7), "7|", api.OK},
		{"%*d|", nums(4.9, 7), "   7|", api.OK}, {"%*d|", nums(-4.9, 7), "7   |", api.OK}, {"%0*d|", nums(-0.9, 7), "7|", api.OK}, {"%*d|", nums(less, 7), "7|", api.OK}, {"%*d|", nums(math.NaN(), 7), "7|", api.OK},
		{"%*s|", nums(1024, 7), "", api.ErrLong}, {"%*s", nums(1024, 7), strings.Repeat(" ", 1023) + "7", api.OK}, {"%*s", nums(-1024.9, 7), "7" + strings.Repeat(" ", 1023), api.OK}, {"%*s", nums(1025, 7), "", api.ErrFormat}, {"%*s", nums(-1025, 7), "", api.ErrFormat}, {"%*s", nums(2000, 7), "", api.ErrFormat}, {"%*s", nums(2001, 7), "", api.ErrFormat}, {"%*s", nums(-2001, 7), "", api.ErrFormat}, {"%*s", nums(1<<32, 7), "", api.ErrFormat}, {"%*s", nums(-1<<63, 7), "", api.ErrFormat}, {"%*s", nums(1<<63, 7), "", api.ErrFormat}, {"%*s", nums(inf, 7), "", api.ErrFormat}, {"%*s", nums(-inf, 7), "", api.ErrFormat},
		{"%.*f|", nums(2, 0.125), "0.12|", api.OK}, {"%.*f|", nums(2.9, 0.125), "0.12|", api.OK}, {"%.*f|", nums(0, 0.75), "1|", api.OK}, {"%.*f|", nums(-0.9, 0.75), "1|", api.OK}, {"%.*f|", nums(math.NaN(), 0.75), "1|", api.OK}, {"%.*f|", nums(-1, 0.75), "0.750000|", api.OK}, {"%.*f|", nums(-500, 0.75), "0.750000|", api.OK}, {"%.*f|", nums(-1e300, 0.75), "0.750000|", api.OK}, {"%.*f|", nums(-inf, 0.75), "0.750000|", api.OK}, {"%.*f", nums(190, 0), "0." + strings.Repeat("0", 190), api.OK}, {"%.*f", nums(191, 0), "", api.ErrFormat}, {"%.*f", nums(inf, 0), "", api.ErrFormat}, {"%.*f", nums(1<<32, 0), "", api.ErrFormat},
		{"%.*s|", []api.Cell{cell.Of(2), cell.Text("abc")}, "ab|", api.OK}, {"%.*s|", []api.Cell{cell.Of(-2), cell.Text("abc")}, "abc|", api.OK}, {"%.*s|", []api.Cell{cell.Of(0), cell.Text("abc")}, "|", api.OK}, {"%0.*d|", nums(-1, 5), "5|", api.OK}, {"%05.*d|", nums(-1, 5), "00005|", api.OK}, {"%05.*d|", nums(2, 5), "   05|", api.OK},
		{"%*.*f|", nums(7, 2, 1.5), "   1.50|", api.OK}, {"%*.*f|", nums(-7, -2, 1.5), "1.500000|", api.OK}, {"%+-*.*d|", nums(7, 3, 5), "+005   |", api.OK}, {"%*.1f|%d", nums(5, 2.25, 8), "  2.2|8", api.OK}, {"%5.*f|%d", nums(1, 2.25, 8), "  2.2|8", api.OK},
		{"%*d|", inputs("3", "4"), "  4|", api.OK}, {"%*d|", []api.Cell{cell.Text("-3x"), cell.Text("4x")}, "4  |", api.OK}, {"%*.*d|", []api.Cell{{}, {}, {}}, "|", api.OK}, {"%*d|", []api.Cell{cell.Text("x"), cell.Of(4)}, "4|", api.OK},
		{"%*%|%d", nums(3, 4), "%|4", api.OK}, {"%.*%|%d", nums(3, 4), "%|4", api.OK}, {"%*.*%|%d", nums(3, 4, 5), "%|5", api.OK}, {"%-+ #09.9%", nil, "%", api.OK}, {"%*%", nil, "", api.ErrFormat}, {"%*.*%", nums(3), "", api.ErrFormat}, {"%*%", nums(1025), "", api.ErrFormat}, {"%*%", nums(-1024), "%", api.OK}, {"%.*%", nums(191), "", api.ErrFormat}, {"%.*%", nums(-191), "%", api.OK},
		{"%*d", nil, "", api.ErrFormat}, {"%*d", nums(1), "", api.ErrFormat}, {"%.*d", nums(1), "", api.ErrFormat}, {"%*.*d", nums(1), "", api.ErrFormat}, {"%*.*d", nums(1, 1), "", api.ErrFormat}, {"%*s%*c", nums(1, 1, 1), "", api.ErrFormat},
	} {
		checkRow(t, row.f, row.args, usual, row.want, row.e)
		checkModel(t, row.f, row.args, "%.6g")
	}
}

// P11.1: numbers and strings as one character.
func TestCharacters(t *testing.T) {
	for _, row := range []struct {
		c           api.Cell
		want, bytes string
	}{
		{cell.Of(0), "\x00", "\x00"}, {cell.Of(65), "A", "A"}, {cell.Of(65.9), "A", "A"}, {cell.Of(-0.9), "\x00", "\x00"}, {cell.Of(-1), "\x00", "\x00"}, {cell.Of(-65), "\x00", "\x00"}, {cell.Of(math.NaN()), "\x00", "\x00"}, {cell.Of(math.Inf(1)), "\x00", "\x00"}, {cell.Of(math.Inf(-1)), "\x00", "\x00"},
		{cell.Of(0x7f), "\x7f", "\x7f"}, {cell.Of(0x80), "\xc2\x80", "\x80"}, {cell.Of(0xe9), "\xc3\xa9", "\xe9"}, {cell.Of(0xff), "\xc3\xbf", "\xff"}, {cell.Of(0x100), "\xc4\x80", "\x00"}, {cell.Of(0x7ff), "\xdf\xbf", "\xff"}, {cell.Of(0x800), "\xe0\xa0\x80", "\x00"}, {cell.Of(0x20ac), "\xe2\x82\xac", "\xac"}, {cell.Of(0xd7ff), "\xed\x9f\xbf", "\xff"}, {cell.Of(0xd841), "A", "A"}, {cell.Of(0xdfff), "\xff", "\xff"}, {cell.Of(0xe000), "\xee\x80\x80", "\x00"}, {cell.Of(0xfffd), "\xef\xbf\xbd", "\xfd"}, {cell.Of(0x10000), "\xf0\x90\x80\x80", "\x00"}, {cell.Of(0x10ffff), "\xf4\x8f\xbf\xbf", "\xff"},
		{cell.Of(0x110000), "\x00", "\x00"}, {cell.Of(0x110041), "A", "A"}, {cell.Of(0x1100e9), "\xe9", "\xe9"}, {cell.Of(0x110142), "B", "B"}, {cell.Of(1<<31 - 1), "\xff", "\xff"}, {cell.Of(1<<31 - 0.5), "\xff", "\xff"}, {cell.Of(1<<31 - 0xff), "\x01", "\x01"}, {cell.Of(1 << 31), "\x00", "\x00"}, {cell.Of(1<<31 + 65), "\x00", "\x00"}, {cell.Of(1<<32 + 65), "\x00", "\x00"}, {cell.Of(1e300), "\x00", "\x00"},
		{cell.Input("65"), "A", "A"}, {cell.Input(" 233.5 "), "\xc3\xa9", "\xe9"}, {cell.Input("-5"), "\x00", "\x00"}, {cell.Input("1e999"), "\x00", "\x00"}, {cell.Input("65x"), "6", "6"}, {cell.Text("65"), "6", "6"},
		{cell.Text(""), "", ""}, {api.Cell{}, "", ""}, {cell.Text("xy"), "x", "x"}, {cell.Text("\xc3\xa9a"), "\xc3\xa9", "\xc3"}, {cell.Text("\xf0\x9f\x98\x80"), "\xf0\x9f\x98\x80", "\xf0"}, {cell.Text("\xffa"), "\xff", "\xff"}, {cell.Text("\xc3"), "\xc3", "\xc3"}, {cell.Text("\xed\xa0\x80"), "\xed", "\xed"}, {cell.Text("\x00a"), "\x00", "\x00"}, {cell.Text("%d"), "%", "%"},
	} {
		for mode, want := range []string{row.want, row.bytes} {
			w := printf.Way{Conv: "%d", Bytes: mode == 1}
			blanks := strings.Repeat(" ", 4-min(1, len(want)))
			args := []api.Cell{row.c}
			checkRow(t, "%c", args, w, want, api.OK)
			checkRow(t, "%.0c", args, w, want, api.OK)
			checkRow(t, "<%+ #04c>", args, w, "<"+blanks+want+">", api.OK)
			checkRow(t, "<%-4.1c>", args, w, "<"+want+blanks+">", api.OK)
		}
	}
}

// P11.1: strings are the values' Strings, and numbers their Numbers.
func TestValues(t *testing.T) {
	w := printf.Way{Conv: "%.2f"}
	for _, row := range []struct {
		f    string
		c    api.Cell
		want string
	}{
		{"%s", cell.Of(0.125), "0.12"}, {"%s", cell.Of(3), "3"}, {"%s", cell.Of(-1e15), "-1000000000000000"}, {"%s", cell.Of(math.NaN()), "+nan"}, {"%s", cell.Of(math.Inf(-1)), "-inf"}, {"%s", cell.Input(" 0.125 "), " 0.125 "}, {"%s", cell.Text("0.125"), "0.125"}, {"%s", api.Cell{}, ""}, {"%3s", api.Cell{}, "   "}, {"%.3s", cell.Of(0.125), "0.1"}, {"%6.3s|", cell.Of(0.125), "   0.1|"}, {"%-6.3s|", cell.Input("0.125"), "0.1   |"}, {"%.0s|", cell.Text("abc"), "|"}, {"%.s|", cell.Text("abc"), "|"}, {"%.2s|", cell.Text("\xc3\xa9\xffa"), "\xc3\xa9\xff|"}, {"%3s|", cell.Text("\xc3\xa9"), "  \xc3\xa9|"},
		{"%d", cell.Text("12abc"), "12"}, {"%d", cell.Text("abc"), "0"}, {"%d", cell.Input(" -12.9 "), "-12"}, {"%d", api.Cell{}, "0"}, {"%i", cell.Of(1e20), "100000000000000000000"}, {"%d", cell.Of(math.NaN()), "+nan"}, {"%x", cell.Text("0x10"), "0"}, {"%X", cell.Input("255"), "FF"}, {"%o", cell.Of(8), "10"}, {"%u", cell.Of(-3), "-3"}, {"%e", cell.Text("1e3x"), "1.000000e+03"}, {"%E", cell.Of(0.5), "5.000000E-01"}, {"%f", cell.Input(".5"), "0.500000"}, {"%F", cell.Of(math.Inf(1)), "+inf"}, {"%g", cell.Text("0.125"), "0.125"}, {"%G", cell.Of(1e-10), "1E-10"}, {"%+08.2f", cell.Of(3.14159), "+0003.14"},
	} {
		checkRow(t, row.f, []api.Cell{row.c}, w, row.want, api.OK)
		checkModel(t, row.f, []api.Cell{row.c}, w.Conv)
	}
	checkRow(t, "%.2s|%3s|", []api.Cell{cell.Text("\xc3\xa9a"), cell.Text("\xc3\xa9")}, bytewise, "\xc3\xa9| \xc3\xa9|", api.OK)
	checkRow(t, "%s %s", []api.Cell{cell.Of(0.5), cell.Of(0.5)}, printf.Way{Conv: "no pattern"}, "0.5 0.5", api.OK)
	checkRow(t, "%s", []api.Cell{cell.Of(0.5)}, printf.Way{}, "0.5", api.OK)
}

// P11.1: what stands between the parts, and values that are left over.
func TestBetween(t *testing.T) {
	odd := "\x00\n\\n\xff\xc3\xc3\xa9*.-0"
	checkRow(t, "", nil, usual, "", api.OK)
	checkRow(t, "", nums(1, 2), usual, "", api.OK)
	checkRow(t, odd, nil, usual, odd, api.OK)
	checkRow(t, odd, nums(1), bytewise, odd, api.OK)
	checkRow(t, "%%", nil, usual, "%", api.OK)
	checkRow(t, "a%%b%%%%c", nil, usual, "a%b%%c", api.OK)
	checkRow(t, "%%d%d", nums(5), usual, "%d5", api.OK)
	checkRow(t, "%d%dx%dd", nums(1, 2, 3, 4), usual, "12x3d", api.OK)
	checkRow(t, "%s", []api.Cell{cell.Text("%d%s%")}, usual, "%d%s%", api.OK)
	checkRow(t, "%5 d", nums(5), usual, "", api.ErrFormat)
	checkRow(t, "%dd", []api.Cell{cell.Of(5), {Kind: 9, N: math.NaN(), S: strings.Repeat("x", 2000)}}, usual, "5d", api.OK)
}

// P11.1, R2, R4: what is refused, and which of two errors is the first.
func TestRefused(t *testing.T) {
	args := nums(1, 2, 3)
	for _, f := range []string{"%", "%q", "%ld", "%1$d", "%-", "%5", "%5.", "%.", "%*", "%.*", "%**d", "%5*d", "%.-5d", "%100000d", "%.100000d", "%1025d", "%99999s", "%.191f", "%.99999s", "%.191c", "%1025c", "%1025%", "%.191%", "%\xff", "%\n", "% ", "%D", "%a", "%n"} {
		checkRow(t, f, args, usual, "", api.ErrFormat)
		checkRow(t, "x"+f, args, bytewise, "", api.ErrFormat)
		checkRow(t, f+"y%1000s%1000s", args, usual, "", api.ErrFormat)
		checkRow(t, "%1000s%1000s"+f, args, usual, "", api.ErrLong)
		checkRow(t, strings.Repeat("x", api.MaxStr+1)+f, args, usual, "", api.ErrLong)
		checkRow(t, "%1000s"+strings.Repeat("x", 25)+f, args, usual, "", api.ErrLong)
		checkRow(t, "%1000s"+strings.Repeat("x", 24)+f, args, usual, "", api.ErrFormat)
		checkRow(t, strings.Repeat("x", 1000)+"%25d"+f, args, usual, "", api.ErrLong)
		checkRow(t, strings.Repeat("x", 1000)+"%24d"+f, args, usual, "", api.ErrFormat)
	}
	for _, row := range []struct {
		f    string
		args []api.Cell
		e    api.Errno
	}{
		{"a%", args, api.ErrFormat}, {"%d%", args, api.ErrFormat}, {"%%%", args, api.ErrFormat}, {"%d", nil, api.ErrFormat}, {"%s", nil, api.ErrFormat}, {"%c", nil, api.ErrFormat}, {"%5.1f", nil, api.ErrFormat}, {"%d%%%d", args[:1], api.ErrFormat}, {"%d%d%d%d", args, api.ErrFormat}, {"%1000d%1000d", args[:1], api.ErrFormat}, {"%1000d%1000d%d", args[:2], api.ErrLong}, {"%1000d%1000d%d", args[:1], api.ErrFormat}, {"%1025d", nil, api.ErrFormat}, {"%*d", nums(1025), api.ErrFormat},
	} {
		checkRow(t, row.f, row.args, usual, "", row.e)
	}
}

// P11.1: the greatest length, of each kind of what is written, and one byte more.
func TestGreatest(t *testing.T) {
	long := strings.Repeat("x", api.MaxStr)
	most := strings.Repeat("\xc3\xa9", api.MaxStr/2)
	blanks := strings.Repeat(" ", api.MaxStr-2)
	for _, row := range []struct {
		f    string
		args []api.Cell
		want string
	}{
		{long, nil, long}, {"%s", []api.Cell{cell.Text(long)}, long}, {"%s", []api.Cell{cell.Input(blanks + "65")}, blanks + "65"}, {"%1024c", nums(65), blanks + " A"}, {"%1024d", nums(65), blanks + "65"}, {"%1023s%%", []api.Cell{{}}, blanks + " %"}, {"%%%1023s", []api.Cell{{}}, "%" + blanks + " "}, {"%s", []api.Cell{cell.Text(most)}, most}, {most, nil, most}, {"%512s", []api.Cell{cell.Text(most)}, most}, {strings.Repeat("%%", api.MaxStr), nil, strings.Repeat("%", api.MaxStr)}, {strings.Repeat("%c", api.MaxStr/2), slices.Repeat(nums(233), api.MaxStr/2), most},
	} {
		checkRow(t, row.f, row.args, usual, row.want, api.OK)
		checkRow(t, row.f+"%s", append(slices.Clone(row.args), api.Cell{}), usual, row.want, api.OK)
		checkRow(t, row.f+"x", row.args, usual, "", api.ErrLong)
		checkRow(t, "x"+row.f, row.args, usual, "", api.ErrLong)
		checkRow(t, row.f+"%%", row.args, usual, "", api.ErrLong)
		checkRow(t, row.f+"%c", append(slices.Clone(row.args), cell.Of(0)), usual, "", api.ErrLong)
	}
	checkRow(t, "%1024s", []api.Cell{cell.Text("\xc3\xa9")}, usual, "", api.ErrLong)
	checkRow(t, "%1024s", []api.Cell{cell.Text("\xc3\xa9")}, bytewise, blanks+"\xc3\xa9", api.OK)
	checkRow(t, "%1024c", nums(233), usual, "", api.ErrLong)
	checkRow(t, "%1024c", nums(233), bytewise, blanks+" \xe9", api.OK)
	checkRow(t, "%.1s%1023s", []api.Cell{cell.Text(long + long), {}}, usual, "x "+blanks, api.OK)
	checkRow(t, "%s%.0s", []api.Cell{cell.Text(long), cell.Text(long)}, usual, long, api.OK)
}

// values: of all kinds, such as may be and others.
func values() []api.Cell {
	list := slices.Concat(probe.Cells(), nums(probe.Floats()...), inputs(probe.Texts()...))
	for _, s := range probe.Texts() {
		list = append(list, cell.Text(s))
	}
	for _, s := range []string{"\xc3\xa9a", "\xe2\x82\xacb", "\xf0\x9f\x98\x80", "\xc3", "\xed\xa0\x80", strings.Repeat("\xc3\xa9", 600)} {
		list = append(list, cell.Text(s))
	}
	return append(list, nums(-5, -1, 0, 2, 3, 7, 65, 190, 191, 233, 0xd800, 0x20ac, 0x10ffff, 0x110000, 1024, 1025, 1999.9, 2000, 2001, -2001, 1<<31-1, 1<<31, 1<<32+3)...)
}

// parts: right ones, wrong ones, and what stands between.
func parts() []string {
	list := []string{"a", "\xc3\xa9", "\xff", " ", "d", "%%", "%5%", "%*%", "%-*.*%", "%", "%q", "%1025s", "%.191g", "%1025%"}
	for _, flags := range []string{"", "-", "+0", "#-", " "} {
		for _, width := range []string{"", "3", "*", "12"} {
			for _, prec := range []string{"", ".", ".2", ".*"} {
				for _, verb := range strings.Split("dioxXueEfFgGcsccss", "") {
					list = append(list, "%"+flags+width+prec+verb)
				}
			}
		}
	}
	return append(list, "%500s", "%-700d", "%1024c")
}

// P11.1: all short formats of the bytes at which parts turn, and of short parts.
func TestShort(t *testing.T) {
	lists := [][]api.Cell{nil, nums(-3.7, 2, 65.5, 4), {cell.Text("\xc3\xa9a"), cell.Input(" 2 "), {}, cell.Text("-4x")}}
	right := 0
	count := func(f string) {
		for _, args := range lists {
			if checkModel(t, f, args, "%.2f") {
				right++
			}
		}
	}
	probe.EachWord("", 5, strings.Split("%-0.*5dsa", ""), count)
	probe.EachWord("", 3, []string{"%d", "%s", "%c", "%*s", "%.*f", "%-*c", "%%", "a", "%", "*", "%*%", "%700s", "%.2s", "\xc3\xa9"}, count)
	if right < 10000 {
		t.Errorf("%d of them right", right)
	}
}

// P11.1: formats and values by chance.
func TestChance(t *testing.T) {
	d := probe.Dice(11)
	all, pieces, patterns := values(), parts(), probe.Patterns()
	right := 0
	for range 100000 {
		var f string
		for range d.Below(5) {
			f += probe.Pick(&d, pieces)
		}
		args := make([]api.Cell, d.Below(12))
		for i := range args {
			args[i] = probe.Pick(&d, all)
			if d.Coin() {
				args[i] = cell.Of(float64(d.Below(400)-100) / 8)
			}
		}
		if checkModel(t, f, args, probe.Pick(&d, patterns)) {
			right++
		}
	}
	if right < 10000 {
		t.Errorf("%d of them right", right)
	}
}

// P11.1: each value by each verb, in both modes, alone and as a width and a precision.
func TestEachValue(t *testing.T) {
	for _, c := range values() {
		for _, verb := range strings.Split("dioxXueEfFgGcs", "") {
			checkModel(t, "<%"+verb+">", []api.Cell{c}, "%.3f")
			checkModel(t, "<%4.1"+verb+">", []api.Cell{c}, "%.3f")
			checkModel(t, "<%*"+verb+">", []api.Cell{c, cell.Input("65")}, "%.3f")
			checkModel(t, "<%-9.*"+verb+">", []api.Cell{c, cell.Input("65")}, "%.3f")
		}
	}
}

// takes: how many values a right format takes.
func takes(f string) int {
	f = strings.ReplaceAll(f, "%%", "")
	return strings.Count(f, "%") + strings.Count(f, "*")
}

// P11.2: two right formats, one behind the other.
func TestTwo(t *testing.T) {
	d := probe.Dice(12)
	pieces := []string{"a", "\xc3", "\xa9", "%%", "%d", "%5.1f", "%c", "%-*s|", "%.*g", "%+*.*e", "%s", "%.2s", "%400s", "%-600d", "5", "."}
	right, long := 0, 0
	for range 50000 {
		var f [2]string
		for i := range f {
			for range d.Below(4) {
				f[i] += probe.Pick(&d, pieces)
			}
		}
		args := make([]api.Cell, takes(f[0])+takes(f[1])+d.Below(2))
		for i := range args {
			args[i] = probe.Pick(&d, []api.Cell{cell.Of(float64(d.Below(600)) / 8), cell.Text("\xc3\xa9" + d.Word(3, "12ab")), cell.Input(d.Word(2, "0123")), {}})
		}
		w := printf.Way{Conv: "%.3g", Bytes: d.Coin()}
		first, errno1 := printf.Sprintf(f[0], args, w)
		second, errno2 := printf.Sprintf(f[1], args[takes(f[0]):], w)
		if errno1 != api.OK || errno2 != api.OK {
			continue
		}
		if len(first+second) > api.MaxStr {
			long++
			checkRow(t, f[0]+f[1], args, w, "", api.ErrLong)
			continue
		}
		right++
		checkRow(t, f[0]+f[1], args, w, first+second, api.OK)
	}
	if right < 10000 || long < 100 {
		t.Errorf("%d of them right, %d too long", right, long)
	}
}

// P11.3: a string with each `%` doubled is written as it is.
func TestDoubled(t *testing.T) {
	check := func(s string) {
		t.Helper()
		for _, w := range []printf.Way{{}, usual, bytewise} {
			want, errno := s, api.OK
			if len(s) > api.MaxStr {
				want, errno = "", api.ErrLong
			}
			checkRow(t, strings.ReplaceAll(s, "%", "%%"), nil, w, want, errno)
			checkRow(t, strings.ReplaceAll(s, "%", "%%"), nums(1, 2), w, want, errno)
		}
	}
	probe.EachWord("", 5, strings.Split("%d*5. \xff", ""), check)
	for b := range 0x100 {
		s := string([]byte{byte(b)})
		check(s)
		check("%" + s + "%" + s)
	}
	d := probe.Dice(13)
	for range 2000 {
		check(d.Word(30, "%%%*.-0 +#5dsc\x00\n\xc3\xa9\xff"))
	}
	for _, s := range []string{"%", "a%", "%ab\xff"} {
		for _, more := range []int{-1, 0, 1} {
			check(strings.Repeat(s, 1+api.MaxStr/len(s))[:api.MaxStr+more])
		}
	}
}

// P2: a float that is written with seventeen digits, and comes in, is that float.
func TestThereAndBack(t *testing.T) {
	d := probe.Dice(14)
	list := probe.Floats()
	for range 10000 {
		list = append(list, math.Float64frombits(d.Next()))
	}
	for _, x := range list {
		if math.IsNaN(x) || math.IsInf(x, 0) {
			continue
		}
		text, errno := printf.Sprintf("%30.*g", nums(17, x), usual)
		if c := cell.Input(text); errno != api.OK || c.Kind != api.StrNum || !probe.Same(cell.Number(c), x) {
			t.Fatalf("%v is written as %q", x, text)
		}
	}
}

// P1: long formats and values end soon.
func TestLong(t *testing.T) {
	const many = 1 << 20
	checkRow(t, strings.Repeat("%%", many), nil, usual, "", api.ErrLong)
	checkRow(t, strings.Repeat("x", many), nil, usual, "", api.ErrLong)
	checkRow(t, strings.Repeat("%s", many), make([]api.Cell, many), usual, "", api.OK)
	checkRow(t, strings.Repeat("%s", many), make([]api.Cell, many-1), usual, "", api.ErrFormat)
	checkRow(t, strings.Repeat("%*.*s", many), make([]api.Cell, 3*many), usual, "", api.OK)
	checkRow(t, "%"+strings.Repeat("-+ #0", many)+"3d|", nums(1), usual, "+1 |", api.OK)
	checkRow(t, "%"+strings.Repeat("0", many), nums(1), usual, "", api.ErrFormat)
	huge := cell.Text(strings.Repeat("\xc3\xa9", many))
	checkRow(t, "%s", []api.Cell{huge}, usual, "", api.ErrLong)
	checkRow(t, "%.1s%c%c", []api.Cell{huge, huge, huge}, usual, "\xc3\xa9\xc3\xa9\xc3\xa9", api.OK)
	checkRow(t, "%.3d", inputs(strings.Repeat(" ", many)+"7"), usual, "007", api.OK)
	checkRow(t, "%s", nums(0.5), printf.Way{Conv: strings.Repeat("%%", many) + "%g"}, "", api.ErrLong)
}

// R3, R8: what was handed in stays, spare room too; an answer is new memory, and the same each time.
func TestAgain(t *testing.T) {
	room := append(values()[:40:40], values()...)
	was := slices.Clone(room)
	for i := range was {
		was[i].S = strings.Clone(was[i].S)
	}
	for _, f := range []string{"plain", "%s%*.*c", "%d%.*f", "%c", "%q"} {
		want, errno := wanted(f, room[:20], usual)
		checkRow(t, f, room[:20], usual, want, errno)
		checkRow(t, f, room[:20], usual, want, errno)
	}
	for i, c := range room {
		if c.Kind != was[i].Kind || !probe.Same(c.N, was[i].N) || c.S != was[i].S {
			t.Fatalf("%v became %v", was[i], c)
		}
	}
	for _, s := range []string{"a", "plain"} {
		c := cell.Text(s)
		plain, _ := printf.Sprintf(s, nil, usual)
		text, _ := printf.Sprintf("%s", []api.Cell{c}, usual)
		if plain != s || text != s || unsafe.StringData(plain) == unsafe.StringData(s) || unsafe.StringData(text) == unsafe.StringData(c.S) {
			t.Errorf("%q and %q, or their memory", plain, text)
		}
	}
}
