package assoc_test

import (
	"iter"
	"math"
	"slices"
	"strconv"
	"strings"
	"testing"
	"unsafe"

	"thresher/api"
	"thresher/assoc"
	"thresher/cell"
	"thresher/probe"
	"thresher/sorts"
)

// list: what an array must be, told once more: its elements stand in a row.
type list []*part

// part: an element of a list: a value, or a list of its own.
type part struct {
	key string
	val api.Cell
	sub *list
}

// place: where the element of a key stands; -1, if there is none.
func (l *list) place(key string) int {
	return slices.IndexFunc(*l, func(p *part) bool { return p.key == key })
}

func (l *list) kind(key string) int {
	at := l.place(key)
	switch {
	case at < 0:
		return 0
	case (*l)[at].sub == nil:
		return 1
	}
	return 2
}

func (l *list) set(key string, c api.Cell) api.Errno {
	switch l.kind(key) {
	case 2:
		return api.ErrKind
	case 1:
		(*l)[l.place(key)].val = c
	case 0:
		*l = append(*l, &part{key: key, val: c})
	}
	return api.OK
}

func (l *list) array(key string) (*list, api.Errno) {
	switch l.kind(key) {
	case 1:
		return nil, api.ErrKind
	case 0:
		*l = append(*l, &part{key: key, sub: &list{}})
	}
	return (*l)[l.place(key)].sub, api.OK
}

func (l *list) remove(key string) bool {
	at := l.place(key)
	if at >= 0 {
		*l = slices.Delete(*l, at, at+1)
	}
	return at >= 0
}

func (l *list) total() int {
	n := 0
	for _, p := range *l {
		if p.sub == nil {
			n++
		} else {
			n += p.sub.total()
		}
	}
	return n
}

func (l *list) entries() []api.Entry {
	var all []api.Entry
	for _, p := range *l {
		all = append(all, api.Entry{Key: p.key, Val: p.val, Sub: p.sub != nil})
	}
	return all
}

// sameCell: are two values the same, in all fields?
func sameCell(a, b api.Cell) bool {
	return a.Kind == b.Kind && probe.Same(a.N, b.N) && a.S == b.S
}

// sameEntries: are the elements the same, one by one?
func sameEntries(a, b []api.Entry) bool {
	return slices.EqualFunc(a, b, func(x, y api.Entry) bool { return x.Key == y.Key && x.Sub == y.Sub && sameCell(x.Val, y.Val) })
}

// gather: what an iterator gives, numbered from 0 on.
func gather(t *testing.T, all iter.Seq2[int, api.Entry]) []api.Entry {
	t.Helper()
	if all == nil {
		t.Fatal("no iterator")
	}
	var l []api.Entry
	for i, e := range all {
		if i != len(l) {
			t.Fatalf("the number %d behind %d elements", i, len(l))
		}
		l = append(l, e)
	}
	return l
}

// checkKeys: Keys answers these.
func checkKeys(t *testing.T, a *assoc.Array, how, conv string, want ...string) {
	t.Helper()
	if got, errno := a.Keys(how, conv); errno != api.OK || !slices.Equal(got, want) {
		t.Fatalf("Keys(%q, %q): %q and %d instead of %q", how, conv, got, errno, want)
	}
}

// check holds an array, and those within it, against a list. Keys that may be there or not are asked for too.
func check(t *testing.T, a *assoc.Array, l *list, keys ...string) {
	t.Helper()
	want := l.entries()
	if got := gather(t, a.All()); !sameEntries(got, want) {
		t.Fatalf("All: %v instead of %v", got, want)
	}
	if a.Len() != len(want) || a.Total() != l.total() {
		t.Fatalf("%d elements and %d values instead of %d and %d", a.Len(), a.Total(), len(want), l.total())
	}
	for _, e := range want {
		keys = append(keys, e.Key)
	}
	for _, k := range keys {
		checkKey(t, a, l, k)
	}
}

// checkKey holds what is told of one key, without making an element.
func checkKey(t *testing.T, a *assoc.Array, l *list, key string) {
	t.Helper()
	kind := l.kind(key)
	if got := a.Kind(key); got != kind {
		t.Fatalf("Kind(%q): %d instead of %d", key, got, kind)
	}
	var want api.Cell
	if kind == 1 {
		want = (*l)[l.place(key)].val
	}
	if got, ok := a.Get(key); ok != (kind == 1) || !sameCell(got, want) {
		t.Fatalf("Get(%q): %v and %v instead of %v", key, got, ok, want)
	}
	if kind == 2 {
		sub, errno := a.Sub(key)
		if sub == nil || errno != api.OK {
			t.Fatalf("Sub(%q): %v and %d", key, sub, errno)
		}
		check(t, sub, (*l)[l.place(key)].sub)
	}
}

// of: an array with these keys, each with its number in the row.
func of(keys ...string) *assoc.Array {
	a := assoc.New()
	for i, k := range keys {
		a.Set(k, cell.Of(float64(i)))
	}
	return a
}

// sub: the array of a key, which must be there or become one.
func sub(t *testing.T, a *assoc.Array, key string) *assoc.Array {
	t.Helper()
	s, errno := a.Sub(key)
	if s == nil || errno != api.OK {
		t.Fatalf("Sub(%q): %v and %d", key, s, errno)
	}
	return s
}

// P8.1: the examples of the chapter.
func TestExamples(t *testing.T) {
	a := assoc.New()
	if errno := a.Set("x", cell.Of(1)); errno != api.OK {
		t.Errorf("Set: %d", errno)
	}
	if errno := sub(t, a, "y").Set("z", cell.Text("t")); errno != api.OK {
		t.Errorf("Set in y: %d", errno)
	}
	if s, errno := a.Sub("x"); s != nil || errno != api.ErrKind {
		t.Errorf("Sub of a value: %v and %d", s, errno)
	}
	if errno := a.Set("y", cell.Of(2)); errno != api.ErrKind {
		t.Errorf("Set of an array: %d", errno)
	}
	if a.Len() != 2 || a.Total() != 2 || a.Kind("y") != 2 {
		t.Errorf("%d, %d, %d", a.Len(), a.Total(), a.Kind("y"))
	}
	if !a.Delete("x") || a.Set("x", cell.Of(3)) != api.OK {
		t.Error("x doesn't come again")
	}
	checkKeys(t, a, "@unsorted", "", "y", "x")
}

// P1, P8.1: a nil array has no elements, and takes none.
func TestNil(t *testing.T) {
	var none *assoc.Array
	for range 2 {
		check(t, none, &list{}, "", "x")
		if errno := none.Set("x", cell.Of(1)); errno != api.ErrNil {
			t.Errorf("Set: %d", errno)
		}
		if s, errno := none.Sub("x"); s != nil || errno != api.ErrNil {
			t.Errorf("Sub: %v and %d", s, errno)
		}
		if none.Delete("x") {
			t.Error("Delete")
		}
		none.Clear()
		for _, how := range probe.Orders() {
			checkKeys(t, none, how, "%.6g")
		}
		if l, errno := none.Keys("@none", "%.6g"); len(l) != 0 || errno != api.ErrOrder {
			t.Errorf("Keys: %q and %d", l, errno)
		}
	}
}

// P8.1: an array without elements, however it became so.
func TestEmpty(t *testing.T) {
	deleted, cleared, never := of("x"), of("x", "y"), sub(t, of("x"), "s")
	deleted.Delete("x")
	cleared.Clear()
	for _, a := range []*assoc.Array{assoc.New(), deleted, cleared, never} {
		check(t, a, &list{}, "", "x", "y", "s")
		if a.Delete("x") || a.Delete("") {
			t.Error("Delete")
		}
		a.Clear()
		for _, how := range probe.Orders() {
			checkKeys(t, a, how, "%.6g")
		}
		if a.Set("x", cell.Of(1)) != api.OK {
			t.Error("Set")
		}
		check(t, a, &list{{key: "x", val: cell.Of(1)}}, "y")
	}
}

// P8.1: what was refused has changed nothing.
func TestRefused(t *testing.T) {
	a := of("b", "a")
	in := sub(t, a, "s")
	in.Set("k", cell.Text("v"))
	was := &list{{key: "b", val: cell.Of(0)}, {key: "a", val: cell.Of(1)}, {key: "s", sub: &list{{key: "k", val: cell.Text("v")}}}}
	for range 2 {
		if errno := a.Set("s", cell.Of(5)); errno != api.ErrKind {
			t.Errorf("Set: %d", errno)
		}
		if errno := a.Set("s", api.Cell{}); errno != api.ErrKind {
			t.Errorf("Set of nothing: %d", errno)
		}
		if s, errno := a.Sub("b"); s != nil || errno != api.ErrKind {
			t.Errorf("Sub: %v and %d", s, errno)
		}
		for _, how := range []string{"", "@", "@up", "unsorted", "@ind_str", "@unsorted_asc", "@UNSORTED"} {
			if l, errno := a.Keys(how, "%.6g"); len(l) != 0 || errno != api.ErrOrder {
				t.Errorf("Keys(%q): %q and %d", how, l, errno)
			}
		}
		if a.Delete("S") || a.Delete("k") || a.Delete("") || a.Delete("s\x00") {
			t.Error("Delete of what isn't there")
		}
		check(t, a, was, "k", "", "S")
		if sub(t, a, "s") != in {
			t.Error("another array")
		}
	}
}

// P8.1, P8.2: any Cell may be a value, and it stays as it was set; an element whose value is nothing is there.
func TestAnyCell(t *testing.T) {
	all := probe.Cells()
	for _, s := range probe.Texts() {
		all = append(all, cell.Text(s), cell.Input(s))
	}
	for _, x := range probe.Floats() {
		all = append(all, cell.Of(x))
	}
	a, l := assoc.New(), &list{}
	for i, c := range all {
		key := strconv.Itoa(i)
		if errno := a.Set(key, c); errno != api.OK {
			t.Fatalf("Set(%v): %d", c, errno)
		}
		l.set(key, c)
		a.Set("same", c)
		if got, ok := a.Get("same"); !ok || !sameCell(got, c) {
			t.Fatalf("Get: %v and %v instead of %v", got, ok, c)
		}
		if s, errno := a.Sub(key); s != nil || errno != api.ErrKind {
			t.Fatalf("Sub of the value %v: %v and %d", c, s, errno)
		}
	}
	a.Delete("same")
	check(t, a, l, "same")
}

// P8.1: keys are bytes; those that count as the same number are others.
func TestKeysAreBytes(t *testing.T) {
	a, l := assoc.New(), &list{}
	for i, k := range probe.Texts() {
		a.Set(k, cell.Of(float64(i)))
		l.set(k, cell.Of(float64(i)))
	}
	for b := range 0x100 {
		k := string([]byte{byte(b)})
		sub(t, a, "s"+k).Set(k, cell.Text(k))
		s, _ := l.array("s" + k)
		s.set(k, cell.Text(k))
	}
	check(t, a, l, "s", "\xc3", "01", "1.0", "s\x00\x00")
}

// do makes one change to an array and a list, and holds the answers against each other: a small letter sets, a great one asks for the array, - ahead deletes, ! clears.
func do(t *testing.T, a *assoc.Array, l *list, what string, c api.Cell) {
	t.Helper()
	last := what[len(what)-1:]
	switch {
	case what == "!":
		a.Clear()
		*l = nil
	case what[0] == '-':
		if got, want := a.Delete(last), l.remove(last); got != want {
			t.Fatalf("Delete(%q): %v", last, got)
		}
	case last < "a":
		key := strings.ToLower(last)
		s, errno := a.Sub(key)
		want, wanted := l.array(key)
		if errno != wanted || (s != nil) != (want != nil) {
			t.Fatalf("Sub(%q): %v and %d instead of %v and %d", key, s, errno, want, wanted)
		}
		if s != nil {
			s.Set(strconv.Itoa(s.Len()), c)
			want.set(strconv.Itoa(len(*want)), c)
		}
	default:
		if got, want := a.Set(last, c), l.set(last, c); got != want {
			t.Fatalf("Set(%q): %d instead of %d", last, got, want)
		}
	}
}

// P8.1, P8.2: all short rows of changes.
func TestShort(t *testing.T) {
	pieces := []string{"a.", "b.", "A.", "B.", "-a.", "-b.", "!."}
	probe.EachWord("", 6, pieces, func(s string) {
		a, l := assoc.New(), &list{}
		for i, what := range strings.Split(s, ".") {
			if what != "" {
				do(t, a, l, what, cell.Of(float64(i)))
			}
		}
		check(t, a, l, "a", "b", "c")
	})
}

// P8.2: keys stand in the order in which they came first, since they were deleted.
func TestOrder(t *testing.T) {
	for _, row := range []struct {
		changes string
		want    []string
	}{
		{"a b c", []string{"a", "b", "c"}},
		{"c b a", []string{"c", "b", "a"}},
		{"a b c a", []string{"a", "b", "c"}},
		{"a b c -a a", []string{"b", "c", "a"}},
		{"a b c -b", []string{"a", "c"}},
		{"a b c -b b a", []string{"a", "c", "b"}},
		{"a b -a -b b a", []string{"b", "a"}},
		{"a B c b B", []string{"a", "b", "c"}},
		{"a B c -b b", []string{"a", "c", "b"}},
		{"a B c -b B A", []string{"a", "c", "b"}},
		{"a b c ! c a", []string{"c", "a"}},
		{"a -a a -a a b -a a", []string{"b", "a"}},
		{"b -x a -x", []string{"b", "a"}},
		{"a b c -c -a -b", nil},
	} {
		a, l := assoc.New(), &list{}
		for i, what := range strings.Fields(row.changes) {
			do(t, a, l, what, cell.Of(float64(i)))
		}
		checkKeys(t, a, "@unsorted", "", row.want...)
		check(t, a, l)
	}
}

// P8.1: the keys in the orders of layer 7, by the pattern that is told.
func TestKeys(t *testing.T) {
	a := assoc.New()
	for _, k := range []string{"10", "9", "b", "B"} {
		a.Set(k, cell.Of(float64(len(k))/8))
	}
	sub(t, a, "-1").Set("k", cell.Of(-100))
	a.Set("0x", cell.Text("0.2"))
	checkKeys(t, a, "@unsorted", "%.6g", "10", "9", "b", "B", "-1", "0x")
	checkKeys(t, a, "@ind_str_asc", "%.6g", "-1", "0x", "10", "9", "B", "b")
	checkKeys(t, a, "@ind_str_desc", "%.6g", "b", "B", "9", "10", "0x", "-1")
	checkKeys(t, a, "@ind_num_asc", "%.6g", "-1", "0x", "B", "b", "9", "10")
	checkKeys(t, a, "@ind_num_desc", "%.6g", "10", "9", "b", "B", "0x", "-1")
	checkKeys(t, a, "@val_str_asc", "%.6g", "9", "b", "B", "0x", "10", "-1")
	checkKeys(t, a, "@val_str_asc", "%.1f", "9", "b", "B", "10", "0x", "-1")
	checkKeys(t, a, "@val_str_desc", "%.2f", "-1", "10", "0x", "9", "b", "B")
	checkKeys(t, a, "@val_num_asc", "%.6g", "9", "b", "B", "0x", "10", "-1")
	checkKeys(t, a, "@val_num_desc", "%.6g", "-1", "10", "0x", "9", "b", "B")
	checkKeys(t, a, "@val_type_asc", "%.6g", "9", "b", "B", "10", "0x", "-1")
	checkKeys(t, a, "@val_type_desc", "%.6g", "-1", "0x", "10", "9", "b", "B")
}

// P8.1: an array that was an element goes on by itself, and so do those in it.
func TestGoesOn(t *testing.T) {
	a := of("x")
	s := sub(t, a, "s")
	in := sub(t, s, "in")
	in.Set("k", cell.Of(1))
	if sub(t, a, "s") != s || sub(t, s, "in") != in {
		t.Error("not the very array")
	}
	if !a.Delete("s") || a.Kind("s") != 0 || a.Total() != 1 {
		t.Error("the element is still there")
	}
	again := sub(t, a, "s")
	if again == s {
		t.Error("the array that was deleted came again")
	}
	check(t, again, &list{}, "in")
	in.Set("l", cell.Of(2))
	s.Set("v", cell.Of(3))
	check(t, s, &list{{key: "in", sub: &list{{key: "k", val: cell.Of(1)}, {key: "l", val: cell.Of(2)}}}, {key: "v", val: cell.Of(3)}})
	check(t, a, &list{{key: "x", val: cell.Of(0)}, {key: "s", sub: &list{}}})
	again.Set("new", cell.Of(4))
	a.Clear()
	check(t, again, &list{{key: "new", val: cell.Of(4)}})
	s.Clear()
	check(t, in, &list{{key: "k", val: cell.Of(1)}, {key: "l", val: cell.Of(2)}})
	if a.Set("s", cell.Of(5)) != api.OK || in.Set("k", cell.Of(6)) != api.OK {
		t.Error("Set behind Clear")
	}
	check(t, a, &list{{key: "s", val: cell.Of(5)}})
}

// P8.1: arrays know nothing of one another.
func TestApart(t *testing.T) {
	a, b := of("x"), of("x")
	if a == b {
		t.Fatal("one array")
	}
	a.Set("x", cell.Text("a"))
	sub(t, a, "s").Set("x", cell.Text("s"))
	check(t, b, &list{{key: "x", val: cell.Of(0)}}, "s")
	b.Clear()
	check(t, a, &list{{key: "x", val: cell.Text("a")}, {key: "s", sub: &list{{key: "x", val: cell.Text("s")}}}})
}

// P8.3: a loop tells what was there when it was asked for, whatever is changed ahead of it, in it, and between two.
func TestLoop(t *testing.T) {
	a := of("a", "b", "c")
	sub(t, a, "s").Set("k", cell.Of(9))
	want := []api.Entry{{Key: "a", Val: cell.Of(0)}, {Key: "b", Val: cell.Of(1)}, {Key: "c", Val: cell.Of(2)}, {Key: "s", Sub: true}}
	loop := a.All()
	a.Set("a", cell.Text("later"))
	a.Delete("b")
	a.Set("z", cell.Of(7))
	now := a.All()
	if got := gather(t, loop); !sameEntries(got, want) {
		t.Errorf("changed ahead of it: %v", got)
	}
	times := 0
	for i, e := range loop {
		a.Delete("s")
		a.Delete(e.Key)
		a.Set(strconv.Itoa(i), cell.Of(1))
		if e != want[i] {
			t.Errorf("changed in it: %v", e)
		}
		times++
	}
	if times != len(want) {
		t.Errorf("%d elements", times)
	}
	a.Clear()
	for range 2 {
		if got := gather(t, loop); !sameEntries(got, want) {
			t.Errorf("gone over again: %v", got)
		}
	}
	later := []api.Entry{{Key: "a", Val: cell.Text("later")}, {Key: "c", Val: cell.Of(2)}, {Key: "s", Sub: true}, {Key: "z", Val: cell.Of(7)}}
	if got := gather(t, now); !sameEntries(got, later) {
		t.Errorf("asked for later: %v", got)
	}
}

// R7: who stops early gets no more, and may go over it again; loops within loops.
func TestStopped(t *testing.T) {
	a := of("a", "b", "c")
	loop := a.All()
	for stop := range 3 {
		times := 0
		loop(func(i int, e api.Entry) bool {
			times++
			return i < stop
		})
		if times != stop+1 {
			t.Errorf("stopped at %d: %d times", stop, times)
		}
	}
	pairs := ""
	for _, e := range loop {
		for _, f := range loop {
			pairs += e.Key + f.Key + " "
		}
	}
	if pairs != "aa ab ac ba bb bc ca cb cc " {
		t.Errorf("%q", pairs)
	}
	assoc.New().All()(func(int, api.Entry) bool {
		t.Error("an element of none")
		return true
	})
}

// held: a loop, and what it must tell.
type held struct {
	loop iter.Seq2[int, api.Entry]
	want []api.Entry
}

// P8.1, P8.2, P8.3: changes by chance of arrays in one another, those that were deleted too, and loops asked for ahead of them.
func TestChance(t *testing.T) {
	d := probe.Dice(1)
	cells := probe.Cells()
	keys := []string{"", "a", "b", "c", "d", "1", "01", "\xff"}
	for range 200 {
		arrays, lists := []*assoc.Array{assoc.New()}, []*list{{}}
		var loops []held
		for range 100 {
			at := d.Below(len(arrays))
			a, l, key := arrays[at], lists[at], probe.Pick(&d, keys)
			switch d.Below(12) {
			case 0:
				a.Clear()
				*l = nil
			case 1, 2, 3:
				if got, want := a.Delete(key), l.remove(key); got != want {
					t.Fatalf("Delete(%q): %v", key, got)
				}
			case 4, 5:
				s, errno := a.Sub(key)
				want, wanted := l.array(key)
				if errno != wanted || slices.Index(arrays, s) != slices.Index(lists, want) {
					t.Fatalf("Sub(%q): %v and %d instead of %v and %d", key, s, errno, want, wanted)
				}
				if s != nil {
					arrays, lists = append(arrays, s), append(lists, want)
				}
			case 6:
				loops = append(loops, held{a.All(), l.entries()})
			default:
				c := probe.Pick(&d, cells)
				if got, want := a.Set(key, c), l.set(key, c); got != want {
					t.Fatalf("Set(%q): %d instead of %d", key, got, want)
				}
			}
			check(t, a, l, keys...)
			checkOrders(t, a, l, probe.Pick(&d, probe.Orders()), probe.Pick(&d, probe.Patterns()))
		}
		for i := range arrays {
			check(t, arrays[i], lists[i], keys...)
		}
		for _, h := range loops {
			if got := gather(t, h.loop); !sameEntries(got, h.want) {
				t.Fatalf("a loop: %v instead of %v", got, h.want)
			}
		}
	}
}

// checkOrders holds Keys against the order of the list's entries.
func checkOrders(t *testing.T, a *assoc.Array, l *list, how, conv string) {
	t.Helper()
	numbers, _ := sorts.Order(l.entries(), how, conv)
	var want []string
	for _, n := range numbers {
		want = append(want, (*l)[n].key)
	}
	checkKeys(t, a, how, conv, want...)
}

// P1, P8.1, P8.2: many elements, of which many go and come again.
func TestMany(t *testing.T) {
	const many = 1 << 17
	a := assoc.New()
	for i := range many {
		a.Set(strconv.Itoa(i), cell.Of(float64(i)))
	}
	for i := 0; i < many; i += 2 {
		if !a.Delete(strconv.Itoa(i)) {
			t.Fatalf("%d isn't there", i)
		}
	}
	for i := 0; i < many; i += 4 {
		a.Set(strconv.Itoa(i), cell.Of(float64(-i)))
	}
	var want []string
	for i := 1; i < many; i += 2 {
		want = append(want, strconv.Itoa(i))
	}
	for i := 0; i < many; i += 4 {
		want = append(want, strconv.Itoa(i))
	}
	if a.Len() != len(want) || a.Total() != len(want) {
		t.Errorf("%d and %d instead of %d", a.Len(), a.Total(), len(want))
	}
	for i, e := range a.All() {
		if e.Key != want[i] {
			t.Fatalf("%d: %q instead of %q", i, e.Key, want[i])
		}
	}
	if got, errno := a.Keys("@unsorted", ""); errno != api.OK || !slices.Equal(got, want) {
		t.Errorf("Keys: %d, and %d", errno, len(got))
	}
}

// P1, P8.1: arrays in one another as deep as may be.
func TestDeep(t *testing.T) {
	const deep = 1 << 16
	top := assoc.New()
	a := top
	for i := range deep {
		a.Set("v", cell.Of(float64(i)))
		a = sub(t, a, "s")
	}
	if top.Total() != deep || top.Len() != 2 || a.Total() != 0 {
		t.Errorf("%d, %d, %d", top.Total(), top.Len(), a.Total())
	}
	a.Set("v", cell.Of(1))
	if top.Total() != deep+1 {
		t.Errorf("%d", top.Total())
	}
}

// P1, P8.1: long keys and values.
func TestLong(t *testing.T) {
	long := strings.Repeat("x", 1<<20)
	a, l := assoc.New(), &list{}
	for _, k := range []string{long, long + "y", long[1:], "y" + long} {
		a.Set(k, cell.Text(k))
		l.set(k, cell.Text(k))
	}
	check(t, a, l, long+"z", long[2:])
	checkKeys(t, a, "@ind_str_asc", "", long[1:], long, long+"y", "y"+long)
}

// P2: a float written with seventeen digits is that float, as it came in, and as a key.
func TestThereAndBack(t *testing.T) {
	d := probe.Dice(5)
	a := assoc.New()
	for range 2000 {
		x := math.Float64frombits(d.Next() &^ (1 << 62))
		text := cell.String(cell.Of(x), "%.17g")
		a.Set(text, cell.Input(text))
		a.Set("n", cell.Of(x))
		c, _ := a.Get(text)
		n, _ := a.Get("n")
		if !probe.Same(cell.Number(c), x) || !probe.Same(n.N, x) {
			t.Fatalf("%v became %v and %v", x, c, n)
		}
	}
}

// shared: do two texts, neither of them empty, stand in the same memory?
func shared(a, b string) bool {
	return unsafe.StringData(a) == unsafe.StringData(b)
}

// R3: what is kept shares no text with what was handed in, nor with what is answered.
func TestTextsAreNew(t *testing.T) {
	bytes := []byte("keyval")
	key, val := unsafe.String(&bytes[0], 3), unsafe.String(&bytes[3], 3)
	a := assoc.New()
	for range 2 {
		a.Set(key, api.Cell{Kind: api.Str, S: val})
	}
	in := sub(t, a, "s")
	sub(t, in, key)
	copy(bytes, "xxxxxx")
	check(t, a, &list{{key: "key", val: cell.Text("val")}, {key: "s", sub: &list{{key: "key", sub: &list{}}}}}, "xxx")

	first, _ := a.Get("key")
	second, _ := a.Get("key")
	if shared(first.S, second.S) {
		t.Error("Get answers what is kept")
	}
	one, other := gather(t, a.All()), gather(t, a.All())
	if shared(one[0].Key, other[0].Key) || shared(one[0].Val.S, other[0].Val.S) || shared(one[0].Val.S, first.S) {
		t.Error("All answers what is kept")
	}
	l, _ := a.Keys("@unsorted", "")
	m, _ := a.Keys("@unsorted", "")
	if shared(l[0], m[0]) || shared(l[0], one[0].Key) {
		t.Error("Keys answers what is kept")
	}
}

// R3, R8: each list that is answered is memory of its own, spare room too; asking changes nothing.
func TestAgain(t *testing.T) {
	a, l := assoc.New(), &list{}
	for i, what := range []string{"c", "a", "S", "b", "A", "-c", "c"} {
		do(t, a, l, what, cell.Of(float64(i)))
	}
	loop := a.All()
	for range 3 {
		for _, how := range probe.Orders() {
			checkOrders(t, a, l, how, "%.6g")
			keys, _ := a.Keys(how, "%.6g")
			clear(append(keys, "spare")[:cap(keys)])
			clear(keys)
		}
		for _, e := range loop {
			e.Key, e.Val, e.Sub = "changed", cell.Of(-1), !e.Sub
		}
		check(t, a, l, "x", "changed", "spare")
		if got := gather(t, loop); !sameEntries(got, l.entries()) {
			t.Errorf("%v", got)
		}
	}
}
