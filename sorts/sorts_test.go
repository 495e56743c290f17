package sorts_test

import (
	"bytes"
	"cmp"
	"math"
	"slices"
	"strconv"
	"strings"
	"testing"

	"thresher/api"
	"thresher/cell"
	"thresher/num"
	"thresher/probe"
	"thresher/sorts"
)

// letters: bytes that keys are made of.
const letters = " +-.019eax\x00\xff"

// values: of all kinds, with whatever stands in the fields, and such as may be.
func values() []api.Cell {
	list := probe.Cells()
	for _, x := range probe.Floats() {
		list = append(list, cell.Of(x))
	}
	for _, s := range probe.Texts() {
		list = append(list, cell.Text(s), cell.Input(s))
	}
	return list
}

// of: entries with these values, all with one key.
func of(values ...api.Cell) []api.Entry {
	var l []api.Entry
	for _, c := range values {
		l = append(l, api.Entry{Key: "k", Val: c})
	}
	return l
}

// keyed: entries with these keys, and nothing in them.
func keyed(keys ...string) []api.Entry {
	var l []api.Entry
	for _, k := range keys {
		l = append(l, api.Entry{Key: k})
	}
	return l
}

// array: an entry that is an array; that Val isn't zero must count for nothing.
func array(key string, val api.Cell) api.Entry {
	return api.Entry{Key: key, Val: val, Sub: true}
}

// entry: one by chance, of few keys and values, so that many are as great.
func entry(d *probe.Dice, all []api.Cell) api.Entry {
	e := api.Entry{Key: probe.Pick(d, probe.Texts()), Val: probe.Pick(d, all), Sub: d.Below(5) == 0}
	if d.Coin() {
		e.Key = d.Word(3, letters)
	}
	if d.Below(4) == 0 {
		e.Val = cell.Of(math.Float64frombits(d.Next()))
	}
	return e
}

// entries: a list of less than so many, by chance.
func entries(d *probe.Dice, bound int, all []api.Cell) []api.Entry {
	l := make([]api.Entry, d.Below(bound))
	for i := range l {
		l[i] = entry(d, all)
	}
	return l
}

// numbers: how two numbers compare: NaN stands behind all.
func numbers(x, y float64) int {
	switch {
	case x == y || math.IsNaN(x) && math.IsNaN(y):
		return 0
	case math.IsNaN(y) || x < y:
		return -1
	}
	return 1
}

// texts: how two strings compare.
func texts(a, b string) int {
	return bytes.Compare([]byte(a), []byte(b))
}

// byKey: how the keys of two entries compare, told once more.
func byKey(a, b api.Entry, counts bool) int {
	if counts {
		x, _ := num.Prefix(a.Key)
		y, _ := num.Prefix(b.Key)
		return cmp.Or(numbers(x, y), texts(a.Key, b.Key))
	}
	return texts(a.Key, b.Key)
}

// byValue: how two values compare, told once more.
func byValue(a, b api.Cell, by, conv string) int {
	switch {
	case by == "str":
		return texts(cell.String(a, conv), cell.String(b, conv))
	case by == "num":
		return numbers(cell.Number(a), cell.Number(b))
	case a.Kind == b.Kind || a.Kind != api.Str && b.Kind != api.Str:
		return cell.Compare(a, b, conv)
	case b.Kind == api.Str:
		return -1
	}
	return 1
}

// compare: which of two entries must stand ahead (the first, if it is below 0), told once more out of the parts of the order's name.
func compare(a, b api.Entry, how, conv string) int {
	parts := strings.Split(how, "_")
	if len(parts) != 3 {
		return 0
	}
	if parts[2] == "desc" {
		a, b = b, a
	}
	switch {
	case parts[0] == "@ind":
		return byKey(a, b, parts[1] == "num")
	case a.Sub && b.Sub:
		return 0
	case a.Sub:
		return 1
	case b.Sub:
		return -1
	}
	return byValue(a.Val, b.Val, parts[1], conv)
}

// order: what Order must answer.
func order(l []api.Entry, how, conv string) []int {
	list := make([]int, len(l))
	for i := range list {
		list[i] = i
	}
	slices.SortStableFunc(list, func(i, j int) int { return compare(l[i], l[j], how, conv) })
	return list
}

// check holds Order against order, in all orders.
func check(t *testing.T, l []api.Entry, conv string) {
	t.Helper()
	for _, how := range probe.Orders() {
		got, errno := sorts.Order(l, how, conv)
		if want := order(l, how, conv); errno != api.OK || !slices.Equal(got, want) {
			t.Fatalf("Order(%v, %q, %q): %v and %d instead of %v", l, how, conv, got, errno, want)
		}
	}
}

// checkRow holds Order against numbers written out by hand.
func checkRow(t *testing.T, l []api.Entry, how, conv string, want ...int) {
	t.Helper()
	if got, errno := sorts.Order(l, how, conv); errno != api.OK || !slices.Equal(got, want) {
		t.Errorf("Order(%v, %q, %q): %v and %d instead of %v", l, how, conv, got, errno, want)
	}
}

// checkNone: how is the name of no order.
func checkNone(t *testing.T, how string) {
	t.Helper()
	if sorts.Known(how) {
		t.Fatalf("Known(%q)", how)
	}
	for _, l := range [][]api.Entry{nil, {}, keyed("b", "a")} {
		if got, errno := sorts.Order(l, how, "%.6g"); errno != api.ErrOrder || len(got) != 0 {
			t.Fatalf("Order(%v, %q): %v and %d", l, how, got, errno)
		}
	}
}

// P7.1: the examples of the chapter.
func TestExamples(t *testing.T) {
	l := []api.Entry{{Key: "10"}, {Key: "9", Sub: true}, {Key: "x", Val: cell.Of(-1)}}
	checkRow(t, l, "@ind_num_asc", "%.6g", 2, 1, 0)
	checkRow(t, l, "@val_num_desc", "%.6g", 1, 0, 2)
}

// P7.1: the names, and what is almost one.
func TestNames(t *testing.T) {
	isName := map[string]bool{}
	for _, how := range probe.Orders() {
		isName[how] = true
		if !sorts.Known(how) {
			t.Errorf("Known(%q)", how)
		}
		for _, l := range [][]api.Entry{nil, {}} {
			checkRow(t, l, how, "%.6g")
		}
		checkRow(t, keyed("k"), how, "%.6g", 0)
	}
	for _, how := range probe.Orders() {
		near := []string{strings.ToUpper(how), how + how, how + "_asc", how + "_desc", " " + how, how + " ", how + "\x00", how[1:], "@" + how}
		for i := range how {
			near = append(near, how[:i], how[:i]+how[i+1:], how[:i]+"_"+how[i:], how[:i]+"\xff"+how[i+1:], how[:i]+string(how[i])+how[i:])
		}
		for _, s := range near {
			if !isName[s] {
				checkNone(t, s)
			}
		}
	}
	for _, s := range []string{"", "@", "_asc", "_desc", "@_asc", "@ind", "@val", "@ind_asc", "@ind_type_asc", "@val_type_asc_desc", "@ind_str", "unsorted", "@ind_str_ascending", "@ind_str_ASC", "@val_str-asc", strings.Repeat("@ind_str_asc", 1<<16)} {
		checkNone(t, s)
	}
}

// P7.1: keys, as texts and as numbers.
func TestKeys(t *testing.T) {
	l := keyed("b", "", "10", "9", "B", "\xff", "9\x00", "a")
	checkRow(t, l, "@ind_str_asc", "", 1, 2, 3, 6, 4, 7, 0, 5)
	checkRow(t, l, "@ind_str_desc", "", 5, 0, 7, 4, 6, 3, 2, 1)
	l = keyed("10", "9", "x", "-1", " 9", "1e1", "09", "-1e999", "0x10", "+nan", "9kg", "1e999")
	checkRow(t, l, "@ind_num_asc", "", 7, 3, 9, 8, 2, 4, 6, 1, 10, 0, 5, 11)
	checkRow(t, l, "@ind_num_desc", "", 11, 5, 0, 10, 1, 6, 4, 2, 8, 9, 3, 7)
	same := []api.Entry{{Key: "1", Val: cell.Of(9)}, {Key: "0"}, {Key: "1", Val: cell.Of(8)}, array("0", api.Cell{}), {Key: "1", Val: cell.Of(7)}}
	for _, how := range []string{"@ind_str", "@ind_num"} {
		checkRow(t, same, how+"_asc", "", 1, 3, 0, 2, 4)
		checkRow(t, same, how+"_desc", "", 0, 2, 4, 1, 3)
	}
}

// P7.1: values by their strings, numbers and types.
func TestValues(t *testing.T) {
	l := of(cell.Of(10), cell.Text("9"), cell.Input(" 9"), api.Cell{}, cell.Text("x"), cell.Of(0.25), cell.Text("-3"), cell.Of(math.NaN()))
	checkRow(t, l, "@val_str_asc", "%.6g", 3, 2, 7, 6, 5, 0, 1, 4)
	checkRow(t, l, "@val_str_desc", "%.6g", 4, 1, 0, 5, 6, 7, 2, 3)
	checkRow(t, l, "@val_num_asc", "%.6g", 6, 3, 4, 5, 1, 2, 0, 7)
	checkRow(t, l, "@val_num_desc", "%.6g", 7, 0, 1, 2, 5, 3, 4, 6)
	checkRow(t, l, "@val_type_asc", "%.6g", 3, 5, 2, 0, 7, 6, 1, 4)
	checkRow(t, l, "@val_type_desc", "%.6g", 4, 1, 6, 7, 0, 2, 5, 3)
}

// P7.1: arrays are greater than values, and as great as one another.
func TestArrays(t *testing.T) {
	low, high := cell.Of(math.Inf(-1)), cell.Text("\xff\xff")
	l := []api.Entry{array("b", high), {Key: "z", Val: high}, array("a", low), {Key: "y", Val: cell.Of(math.NaN())}, array("c", api.Cell{})}
	checkRow(t, l, "@val_str_asc", "%d", 3, 1, 0, 2, 4)
	checkRow(t, l, "@val_str_desc", "%d", 0, 2, 4, 1, 3)
	checkRow(t, l, "@val_num_asc", "%d", 1, 3, 0, 2, 4)
	checkRow(t, l, "@val_num_desc", "%d", 0, 2, 4, 3, 1)
	checkRow(t, l, "@val_type_asc", "%d", 3, 1, 0, 2, 4)
	checkRow(t, l, "@val_type_desc", "%d", 0, 2, 4, 1, 3)
	checkRow(t, l, "@ind_str_asc", "%d", 2, 0, 4, 3, 1)
	checkRow(t, l, "@unsorted", "%d", 0, 1, 2, 3, 4)
}

// P7.1: what is as great stands as in the list, whichever way the order runs.
func TestAlike(t *testing.T) {
	for _, row := range []struct {
		l  []api.Entry
		by []string
	}{
		{of(cell.Of(1), cell.Text("1"), cell.Input("1"), cell.Of(1)), []string{"@val_str", "@val_num"}},
		{of(cell.Of(0), cell.Of(math.Copysign(0, -1)), api.Cell{}, cell.Input("-0"), cell.Of(0), api.Cell{Kind: 9, N: 5, S: "x"}), []string{"@val_num", "@val_type"}},
		{of(cell.Of(math.NaN()), cell.Of(math.Float64frombits(0xfff8000000000001)), cell.Of(math.NaN())), []string{"@val_str", "@val_num", "@val_type"}},
		{of(cell.Text("x"), cell.Text(""), cell.Text("y"), cell.Text("0z")), []string{"@val_num", "@ind_str", "@ind_num"}},
	} {
		want := order(row.l, "@unsorted", "")
		for _, by := range row.by {
			checkRow(t, row.l, by+"_asc", "%.6g", want...)
			checkRow(t, row.l, by+"_desc", "%.6g", want...)
		}
	}
}

// P7.1: by which numbers become strings tells how they stand as strings, and nothing else.
func TestConv(t *testing.T) {
	l := of(cell.Of(0.26), cell.Of(0.25), cell.Text("0.3"), cell.Of(2), cell.Input("0.2"))
	checkRow(t, l, "@val_str_asc", "%.6g", 4, 1, 0, 2, 3)
	checkRow(t, l, "@val_str_asc", "%.1f", 1, 4, 0, 2, 3)
	checkRow(t, l, "@val_str_asc", "x%.0f", 4, 2, 3, 0, 1)
	for _, conv := range probe.Patterns() {
		checkRow(t, l, "@val_num_asc", conv, 4, 1, 0, 2, 3)
		checkRow(t, l, "@val_type_asc", conv, 4, 1, 0, 3, 2)
		checkRow(t, keyed("0.3", "0.25"), "@ind_num_asc", conv, 1, 0)
	}
}

// P7.1: every value with every other one.
func TestPairs(t *testing.T) {
	all := values()
	for i, a := range all {
		for j := i % 13; j < len(all); j += 13 {
			check(t, of(a, all[j]), probe.Patterns()[(i+j)%len(probe.Patterns())])
		}
	}
	for _, a := range probe.Texts() {
		for _, b := range probe.Texts() {
			check(t, keyed(a, b), "%.6g")
		}
	}
}

// P7.1: every short list of few entries.
func TestShort(t *testing.T) {
	few := []api.Entry{{Key: "2", Val: cell.Text("10")}, {Key: "10", Val: cell.Of(2)}, array("02", cell.Of(1)), {Key: "x", Val: cell.Input("2")}, {Key: "2"}}
	probe.EachWord("", 5, []string{"0", "1", "2", "3", "4"}, func(s string) {
		var l []api.Entry
		for _, digit := range s {
			l = append(l, few[digit-'0'])
		}
		check(t, l, "%.6g")
	})
}

// P7.1: lists by chance.
func TestLists(t *testing.T) {
	d := probe.Dice(1)
	all := values()
	for range 1000 {
		l := entries(&d, 60, all)
		check(t, l, probe.Pick(&d, probe.Patterns()))
	}
}

// P1, P7.1: many entries, by chance, and such as are in order, or the other way round, already.
func TestMany(t *testing.T) {
	const many = 10000
	d := probe.Dice(2)
	var chance, rising, falling []api.Entry
	for i := range many {
		n := int(d.Below(many))
		chance = append(chance, api.Entry{Key: strconv.Itoa(n), Val: cell.Of(float64(n % 1000)), Sub: n%7 == 0})
		rising = append(rising, api.Entry{Key: strconv.Itoa(many + i), Val: cell.Of(float64(i))})
		falling = append(falling, api.Entry{Key: strconv.Itoa(2*many - i), Val: cell.Of(float64(-i))})
	}
	for _, l := range [][]api.Entry{chance, rising, falling, make([]api.Entry, many)} {
		check(t, l, "%.6g")
	}
}

// P1, P7.1: long keys and values, and a long pattern.
func TestLong(t *testing.T) {
	long := strings.Repeat("1", 1<<20)
	l := []api.Entry{{Key: long + "2", Val: cell.Text(long + "2")}, {Key: long, Val: cell.Text(long)}, {Key: long + "1", Val: cell.Input(long + "1")}, {Key: "-" + long, Val: cell.Of(-0.5)}}
	check(t, l, "%.6g")
	check(t, l, strings.Repeat("1", 1<<20)+"%.2f")
}

// P7.2: each number stands there once, and entries that are in order stay as they are.
func TestStay(t *testing.T) {
	d := probe.Dice(3)
	all := values()
	for range 300 {
		l := entries(&d, 40, all)
		conv := probe.Pick(&d, probe.Patterns())
		for _, how := range probe.Orders() {
			first, _ := sorts.Order(l, how, conv)
			inOrder := make([]api.Entry, len(l))
			seen := make([]int, len(l))
			for place, number := range first {
				seen[number]++
				inOrder[place] = l[number]
			}
			if len(first) != len(l) || slices.ContainsFunc(seen, func(n int) bool { return n != 1 }) {
				t.Fatalf("%q: not each number once: %v", how, first)
			}
			checkRow(t, inOrder, how, conv, order(l, "@unsorted", "")...)
		}
	}
}

// P2: floats written with seventeen digits stand as the floats do, as keys and as values.
func TestThereAndBack(t *testing.T) {
	d := probe.Dice(4)
	for range 300 {
		x := math.Float64frombits(d.Next() &^ (1 << 62))
		y := math.Nextafter(x, math.Inf(1))
		a, b := cell.String(cell.Of(x), "%.17g"), cell.String(cell.Of(y), "%.17g")
		checkRow(t, keyed(b, a, b), "@ind_num_asc", "", 1, 0, 2)
		for _, by := range []string{"@val_num", "@val_type"} {
			checkRow(t, of(cell.Input(b), cell.Of(x), cell.Of(y), cell.Input(a)), by+"_asc", "", 1, 3, 0, 2)
		}
	}
}

// R3, R8: what was handed in stays, spare room too; each answer is memory of its own; the same is answered each time.
func TestAgain(t *testing.T) {
	room := []api.Entry{{Key: "b", Val: cell.Of(0.5)}, array("a", cell.Of(1)), {Key: "c", Val: cell.Text("x")}, {Key: "spare", Val: cell.Of(7)}}
	was := slices.Clone(room)
	for _, how := range probe.Orders() {
		want := order(room[:3], how, "%.1f")
		for range 3 {
			got, _ := sorts.Order(room[:3], how, "%.1f")
			if !slices.Equal(got, want) {
				t.Errorf("%q: %v instead of %v", how, got, want)
			}
			clear(append(got, -1, -2)[:cap(got)])
			clear(got)
		}
	}
	if !slices.Equal(room, was) {
		t.Errorf("%v became %v", was, room)
	}
}
