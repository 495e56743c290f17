package nfa_test

import (
	"fmt"
	"iter"
	"math"
	"reflect"
	"slices"
	"strings"
	"testing"

	"thresher/api"
	"thresher/nfa"
	"thresher/probe"
	"thresher/rx"
	"thresher/ustr"
)

// kids: what a node of several is made of.
type kids = []api.Rx

func char(code int) api.Rx { return api.Rx{Kind: api.RxChar, Code: code} }

func set(neg bool, bounds ...int) api.Rx {
	node := api.Rx{Kind: api.RxSet, Neg: neg}
	for i := 0; i < len(bounds); i += 2 {
		node.Set = append(node.Set, api.Range{Lo: bounds[i], Hi: bounds[i+1]})
	}
	return node
}

func rep(kid api.Rx, low, high int) api.Rx {
	return api.Rx{Kind: api.RxRep, Min: low, Max: high, Kids: kids{kid}}
}

func cat(list ...api.Rx) api.Rx { return api.Rx{Kind: api.RxCat, Kids: list} }

func alt(list ...api.Rx) api.Rx { return api.Rx{Kind: api.RxAlt, Kids: list} }

func leaf(kind api.RxKind) api.Rx { return api.Rx{Kind: kind} }

// ways: all of them.
func ways() []nfa.Way {
	return []nfa.Way{{}, {Fold: true}, {Bytes: true}, {Fold: true, Bytes: true}}
}

// span: a match: from a place to a place.
type span struct{ a, b int }

// model tells once more where a tree leads in a string of less than 64 characters: sets of places are words, a bit for each.
type model struct {
	w      nfa.Way
	codes  []int
	places []int // where the characters begin, and the end
}

func newModel(s string, w nfa.Way) *model {
	m := &model{w: w}
	for at, code := range ustr.All(s, w.Bytes) {
		m.codes, m.places = append(m.codes, code), append(m.places, at)
	}
	m.places = append(m.places, len(s))
	if len(m.places) > 64 {
		panic("too long a string for the model")
	}
	return m
}

// lead: the places to which a node leads from some places.
func (m *model) lead(t api.Rx, from uint64) uint64 {
	switch t.Kind {
	case api.RxCat:
		for _, kid := range t.Kids {
			from = m.lead(kid, from)
		}
		return from
	case api.RxAlt:
		all := uint64(0)
		for _, kid := range t.Kids {
			all |= m.lead(kid, from)
		}
		return all
	case api.RxRep:
		return m.rounds(t, from)
	}
	to := uint64(0)
	for i := range m.places {
		switch {
		case from>>i&1 == 0:
		case t.Kind == api.RxChar || t.Kind == api.RxAny || t.Kind == api.RxSet:
			if i < len(m.codes) && m.fits(t, m.codes[i]) {
				to |= 1 << (i + 1)
			}
		case m.holds(t.Kind, i):
			to |= 1 << i
		}
	}
	return to
}

func (m *model) rounds(t api.Rx, from uint64) uint64 {
	for range t.Min {
		from = m.lead(t.Kids[0], from)
	}
	all := from
	if t.Max >= 0 {
		for range t.Max - t.Min {
			from = m.lead(t.Kids[0], from)
			all |= from
		}
		return all
	}
	for {
		more := all | m.lead(t.Kids[0], all)
		if more == all {
			return all
		}
		all = more
	}
}

// other: the other form of a letter; of what is none the code itself.
func (m *model) other(code int) int {
	switch {
	case 'A' <= code && code <= 'Z':
		return code + 32
	case 'a' <= code && code <= 'z':
		return code - 32
	case m.w.Bytes || code == 0xd7 || code == 0xf7:
		return code
	case 0xc0 <= code && code <= 0xde:
		return code + 32
	case 0xe0 <= code && code <= 0xfe:
		return code - 32
	}
	return code
}

func (m *model) fits(t api.Rx, code int) bool {
	other := code
	if m.w.Fold {
		other = m.other(code)
	}
	switch t.Kind {
	case api.RxAny:
		return true
	case api.RxChar:
		return t.Code == code || t.Code == other
	}
	in := slices.ContainsFunc(t.Set, func(r api.Range) bool {
		return r.Lo <= code && code <= r.Hi || r.Lo <= other && other <= r.Hi
	})
	return in != t.Neg
}

// word: does a character of a word stand there?
func (m *model) word(i int) bool {
	if i < 0 || i >= len(m.codes) || m.codes[i] == 0 || m.codes[i] > 0x7f {
		return false
	}
	return strings.IndexByte("0123456789_abcdefghijklmnopqrstuvwxyzABCDEFGHIJKLMNOPQRSTUVWXYZ", byte(m.codes[i])) >= 0
}

func (m *model) holds(kind api.RxKind, i int) bool {
	beside := 0
	if m.word(i - 1) {
		beside++
	}
	if m.word(i) {
		beside++
	}
	switch kind {
	case api.RxEmpty:
		return true
	case api.RxBegin:
		return i == 0
	case api.RxEnd:
		return i == len(m.codes)
	case api.RxEdge:
		return beside == 1
	case api.RxIn:
		return beside != 1
	case api.RxHead:
		return beside == 1 && m.word(i)
	case api.RxTail:
		return beside == 1 && m.word(i-1)
	}
	panic("no kind of a leaf")
}

// longest: for each place the greatest to which the whole tree leads from there; -1, if there is none.
func (m *model) longest(t api.Rx) []int {
	list := make([]int, len(m.places))
	for i := range list {
		list[i] = -1
		to := m.lead(t, 1<<i)
		for k, at := range m.places {
			if to>>k&1 == 1 {
				list[i] = at
			}
		}
	}
	return list
}

// find: what Find must answer, by what longest told.
func (m *model) find(longest []int, from int) (span, bool) {
	for i, at := range m.places {
		if from >= 0 && at >= from && longest[i] >= 0 {
			return span{at, longest[i]}, true
		}
	}
	return span{}, false
}

// all: the matches that All must tell.
func (m *model) all(longest []int) []span {
	var list []span
	from := 0
	for {
		x, ok := m.find(longest, from)
		if ok && len(list) > 0 && x.a == x.b && x.b == list[len(list)-1].b {
			x, ok = m.find(longest, m.further(x.b))
		}
		if !ok {
			return list
		}
		list = append(list, x)
		from = x.b
		if x.a == x.b {
			from = m.further(x.b)
		}
	}
}

// further: the place behind a place; behind the end there is none.
func (m *model) further(at int) int {
	i := slices.Index(m.places, at)
	if i == len(m.places)-1 {
		return at + 1
	}
	return m.places[i+1]
}

// compile: the program of a tree that may be.
func compile(t testing.TB, tree api.Rx, w nfa.Way) *nfa.Prog {
	t.Helper()
	p, errno := nfa.Compile(tree, w)
	if p == nil || errno != api.OK {
		t.Fatalf("Compile of %.200s: %d", fmt.Sprint(tree), errno)
	}
	return p
}

// parsed: the program of a pattern that is right.
func parsed(t testing.TB, text string, w nfa.Way) *nfa.Prog {
	t.Helper()
	tree, _, errno := rx.Parse(text, w.Bytes)
	if errno != api.OK {
		t.Fatalf("Parse of %q: %d", text, errno)
	}
	return compile(t, tree, w)
}

func find(p *nfa.Prog, s string, from int) (span, bool) {
	a, b, ok := p.Find(s, from)
	return span{a, b}, ok
}

func collect(seq iter.Seq2[int, int]) []span {
	var list []span
	for a, b := range seq {
		list = append(list, span{a, b})
	}
	return list
}

// check holds what a program answers of a string against the model, from everywhere on.
func check(t testing.TB, name string, tree api.Rx, p *nfa.Prog, s string, w nfa.Way) {
	t.Helper()
	m := newModel(s, w)
	longest := m.longest(tree)
	for from := -2; from <= len(s)+2; from++ {
		got, ok := find(p, s, from)
		if want, must := m.find(longest, from); got != want || ok != must {
			t.Fatalf("%.200s in %q from %d, %+v: %v and %v instead of %v and %v", name, s, from, w, got, ok, want, must)
		}
	}
	if got, want := collect(p.All(s)), m.all(longest); !slices.Equal(got, want) {
		t.Fatalf("%.200s in %q, %+v: %v instead of %v", name, s, w, got, want)
	}
}

// The chapter's examples.
func TestExamples(t *testing.T) {
	p := parsed(t, "a|ab|(b|c)+", nfa.Way{})
	if x, ok := find(p, "xabcb", 0); !ok || x != (span{1, 3}) {
		t.Errorf("from 0 on: %v and %v", x, ok)
	}
	if x, ok := find(p, "xabcb", 2); !ok || x != (span{2, 5}) {
		t.Errorf("from 2 on: %v and %v", x, ok)
	}
	if list := collect(parsed(t, "a*", nfa.Way{}).All("baac")); !slices.Equal(list, []span{{0, 0}, {1, 3}, {4, 4}}) {
		t.Errorf("All: %v", list)
	}
	if x, ok := find(parsed(t, "^a", nfa.Way{}), "ba", 1); ok || x != (span{}) {
		t.Errorf("^a: %v and %v", x, ok)
	}
	if x, ok := find(parsed(t, "[X-Z]", nfa.Way{Fold: true}), "ay", 0); !ok || x != (span{1, 2}) {
		t.Errorf("[X-Z]: %v and %v", x, ok)
	}
}

// P10.1: matches of patterns, from a place on.
func TestFind(t *testing.T) {
	const none = -1
	for _, c := range []struct {
		pattern, s string
		from, a, b int
	}{
		{"b", "abcb", 0, 1, 2}, {"b", "abcb", 1, 1, 2}, {"b", "abcb", 2, 3, 4}, {"b", "abcb", 4, none, 0}, {"b", "", 0, none, 0},
		{"", "", 0, 0, 0}, {"", "ab", 1, 1, 1}, {"", "ab", 2, 2, 2}, {"", "ab", 3, none, 0}, {"", "ab", math.MaxInt, none, 0}, {"", "ab", -1, none, 0}, {"", "ab", math.MinInt, none, 0},
		{"a|ab", "cab", 0, 1, 3}, {"ab|a", "cab", 0, 1, 3}, {"a|abc|ab", "abd", 0, 0, 2}, {"b|abc", "abd", 0, 1, 2}, {"abcd|bc", "abce", 0, 1, 3},
		{"a*", "baa", 0, 0, 0}, {"a*", "baa", 1, 1, 3}, {"a+", "baa", 0, 1, 3}, {"a?", "aa", 0, 0, 1}, {"a*b", "aaab", 0, 0, 4}, {"a*b", "aaaa", 0, none, 0},
		{"a{2}", "aaaa", 0, 0, 2}, {"a{2}", "a", 0, none, 0}, {"a{2,}", "aaaa", 0, 0, 4}, {"a{2,}", "a", 0, none, 0}, {"a{2,3}", "aaaa", 0, 0, 3}, {"a{2,3}", "aa", 0, 0, 2}, {"a{0}", "aa", 0, 0, 0}, {"a{0,2}", "aaa", 0, 0, 2}, {"(ab){0}c", "abc", 0, 2, 3},
		{"(a|ab)(c|bcd)(d*)", "abcd", 0, 0, 4}, {"(a|){3}b", "aab", 0, 0, 3}, {"(a*)*b", "aab", 0, 0, 3}, {"(a*){30}", "aab", 0, 0, 2}, {"(a|b){2}{2}", "abbab", 0, 0, 4}, {"(){5}a", "ba", 0, 1, 2}, {"(|a)+", "aab", 0, 0, 2},
		{"^", "ab", 0, 0, 0}, {"^", "ab", 1, none, 0}, {"$", "ab", 0, 2, 2}, {"a$", "aa", 0, 1, 2}, {"^$", "", 0, 0, 0}, {"^$", "a", 0, none, 0}, {"a^b", "ab", 0, none, 0}, {"a$b", "ab", 0, none, 0}, {"(^a)*b", "aab", 0, 2, 3}, {"(^a)*b", "ab", 0, 0, 2}, {"^*b", "ab", 0, 1, 2}, {"^", "a\nb", 1, none, 0}, {"a$", "a\nb", 0, none, 0}, {".*", "a\nb", 0, 0, 3},
		{`\ya`, "ba a", 0, 3, 4}, {`a\y`, "ab a", 0, 3, 4}, {`\Ba`, "a ba", 0, 3, 4}, {`a\B`, "a ab", 0, 2, 3}, {`\<a`, "ba a", 0, 3, 4}, {`a\>`, "ab a", 0, 3, 4}, {`\<`, " a", 0, 1, 1}, {`\>`, " a ", 0, 2, 2}, {`\B`, "", 0, 0, 0}, {`\y`, "", 0, none, 0}, {`\y`, "  ", 0, none, 0}, {`\y`, "a", 1, 1, 1}, {`\<a`, "ba", 1, none, 0}, {`\Ba`, "ba", 1, 1, 2}, {"\\`a", "aa", 1, none, 0}, {`a\'`, "aa", 0, 1, 2},
		{`\<_`, "9_", 0, none, 0}, {`\<_`, "-_", 0, 1, 2}, {`\<a`, "\xc3\xa9a", 0, 2, 3}, {`\<a`, "\xffa", 0, 1, 2}, {`a\>`, "a\xc3\xa9", 0, 0, 1},
		{".", "\xc3\xa9", 0, 0, 2}, {"..", "\xc3\xa9", 0, none, 0}, {"..", "\xc3\xc3", 0, 0, 2}, {"", "\xc3\xa9a", 1, 2, 2}, {".", "\xe2\x82\xacab", 1, 3, 4}, {".", "\xe2\x82\xacab", 2, 3, 4}, {"", "\xe2\x82\xac", 1, 3, 3}, {".", "\xe2\x82a", 1, 1, 2}, {"", "a\xf0\x9f\x98\x80", 2, 5, 5}, {"", "a\xf0\x9f\x98\x80", 4, 5, 5}, {"\xa9", "\xc3\xa9", 0, none, 0}, {"\xa9", "\xa9", 0, 0, 1}, {"\xc3", "\xc3\xa9\xc3", 0, 2, 3},
		{"[a-c]+", "xabcd", 0, 1, 4}, {"[^a-c]", "abd", 0, 2, 3}, {"[^\xc3\xa9]", "\xc3\xa9\xff", 0, 2, 3}, {"[\x80-\xff]+", "\xc3\xa9\xff\xa9", 0, 2, 4}, {"a", "A", 0, none, 0}, {"[a]", "A", 0, none, 0}, {"[^A]", "a", 0, 0, 1},
	} {
		want, ok := span{c.a, c.b}, c.a != none
		if !ok {
			want = span{}
		}
		if x, found := find(parsed(t, c.pattern, nfa.Way{}), c.s, c.from); x != want || found != ok {
			t.Errorf("%q in %q from %d: %v and %v instead of %v and %v", c.pattern, c.s, c.from, x, found, want, ok)
		}
	}
}

// P10.1: with Fold a letter is its other form too; in byte mode each byte is a character, and just the letters of ASCII are letters.
func TestWays(t *testing.T) {
	fold, bytes, both := nfa.Way{Fold: true}, nfa.Way{Bytes: true}, nfa.Way{Fold: true, Bytes: true}
	for _, c := range []struct {
		tree api.Rx
		s    string
		w    nfa.Way
		b    int // the match is from 0 to b; -1: none
	}{
		{char('a'), "A", fold, 1}, {char('A'), "a", fold, 1}, {char('A'), "A", fold, 1}, {char('a'), "b", fold, -1}, {char('@'), "`", fold, -1}, {char('['), "{", fold, -1}, {char('z'), "Z", fold, 1}, {char('Z'), "z", fold, 1},
		{char(0xe9), "\xc3\x89", fold, 2}, {char(0xc9), "\xc3\xa9", fold, 2}, {char(0xe9), "\xc3\x89", nfa.Way{}, -1}, {char(0xd7), "\xc3\xb7", fold, -1}, {char(0xf7), "\xc3\x97", fold, -1}, {char(0xff), "\xc3\x9f", fold, -1}, {char(0xdf), "\xc3\xbf", fold, -1}, {char(0xc0), "\xc3\xa0", fold, 2}, {char(0xfe), "\xc3\x9e", fold, 2},
		{set(false, 'X', 'Z'), "y", fold, 1}, {set(false, 'x', 'z'), "Y", fold, 1}, {set(true, 'x', 'z'), "Y", fold, -1}, {set(true, 'X', 'Z'), "y", fold, -1}, {set(true, 'X', 'Z'), "y", nfa.Way{}, 1}, {set(true, 'X', 'Z'), "w", fold, 1}, {set(false, 0xc9, 0xc9), "\xc3\xa9", fold, 2}, {set(false, 0xe9, 0xe9), "\xc3\x89", fold, 2}, {set(false, 0xd7, 0xd7), "\xc3\xb7", fold, -1}, {set(false, 0xf7, 0xf7), "\xc3\x97", fold, -1},
		{char(0xe9), "\xe9", bytes, 1}, {char(0xe9), "\xe9", nfa.Way{}, -1}, {char(0x1100e9), "\xe9", nfa.Way{}, 1}, {char(0x1100e9), "\xe9", bytes, -1}, {char(0xe9), "\xc3\xa9", bytes, -1}, {cat(char(0xc3), char(0xa9)), "\xc3\xa9", bytes, 2}, {cat(char(0x1100c3), char(0x1100a9)), "\xc3\xa9", nfa.Way{}, -1},
		{char(0xe9), "\xc9", both, -1}, {char(0xc9), "\xe9", both, -1}, {set(false, 0xe9, 0xe9), "\xc9", both, -1}, {set(false, 0xc9, 0xc9), "\xe9", both, -1}, {char('a'), "A", both, 1}, {char('a'), "A", bytes, -1}, {set(false, 'a', 'c'), "B", both, 1}, {set(true, 'a', 'c'), "B", both, -1}, {set(false, 0xe9, 0xe9), "\xe9", both, 1},
		{leaf(api.RxAny), "\xc3\xa9", bytes, 1}, {leaf(api.RxAny), "\xff", nfa.Way{}, 1}, {set(true), "\xc3\xa9", fold, 2}, {set(false), "a", fold, -1}, {char('a' | 1<<32), "a", nfa.Way{}, -1}, {char(-1), "\xff", bytes, -1}, {char('a' - 256), "a", both, -1}, {char(math.MinInt), "\x00", fold, -1}, {char(math.MaxInt), "\xff", both, -1}, {char(0xd800), "\xed\xa0\x80", nfa.Way{}, -1},
	} {
		x, ok := find(compile(t, c.tree, c.w), c.s, 0)
		if want := (span{0, max(c.b, 0)}); x != want || ok != (c.b >= 0) {
			t.Errorf("%v in %q, %+v: %v and %v", c.tree, c.s, c.w, x, ok)
		}
	}
}

// P10.1: each code at the place of each other, for all kinds of nodes that fit characters.
func TestCodes(t *testing.T) {
	codes := []int{0, '0', '@', 'A', 'M', 'Z', '[', '_', '`', 'a', 'm', 'z', '{', 0x7f, 0x80, 0xa9, 0xbf, 0xc0, 0xc3, 0xd6, 0xd7, 0xd8, 0xde, 0xdf, 0xe0, 0xe3, 0xf6, 0xf7, 0xf8, 0xfe, 0xff, 0x100, 0x101, 0x178, 0x20ac, 0xd7ff, 0xe000, 0xfffd, 0x10ffff, 0x110041, 0x110061, 0x110080, 0x1100c9, 0x1100e9, 0x1100ff}
	for _, code := range codes {
		trees := kids{char(code), set(false, code, code), set(true, code, code), set(false, 0, code), set(true, code, 0x1100ff)}
		for _, w := range ways() {
			for _, tree := range trees {
				p := compile(t, tree, w)
				for _, other := range codes {
					check(t, fmt.Sprint(tree), tree, p, ustr.Text(other), w)
				}
				for b := range 256 {
					check(t, fmt.Sprint(tree), tree, p, string([]byte{byte(b)}), w)
				}
			}
		}
	}
}

// P10.1: sets of many ranges.
func TestManyRanges(t *testing.T) {
	for n := range 40 {
		tree := api.Rx{Kind: api.RxSet}
		for i := range n {
			tree.Set = append(tree.Set, api.Range{Lo: 5 * i, Hi: 5*i + i%4})
		}
		for _, tree.Neg = range []bool{false, true} {
			for _, w := range ways() {
				p := compile(t, tree, w)
				for code := range 210 {
					check(t, fmt.Sprint(tree), tree, p, ustr.Text(code), w)
				}
			}
		}
	}
}

// P10.1: conditions at all places of all short strings; a byte of a character beside it is no character of a word.
func TestConditions(t *testing.T) {
	pieces := []string{"a", "Z", "_", "9", " ", "-", "\xc3\xa9", "\xff", "\xc3", "\n", "\x00"}
	for kind := api.RxBegin; kind <= api.RxTail; kind++ {
		for _, w := range ways() {
			tree := leaf(kind)
			p := compile(t, tree, w)
			probe.EachWord("", 3, pieces, func(s string) { check(t, fmt.Sprint(tree), tree, p, s, w) })
		}
	}
	for b := range 256 {
		for kind := api.RxEdge; kind <= api.RxTail; kind++ {
			c := string([]byte{byte(b)})
			for _, s := range []string{c, c + c, "a" + c, c + "a", " " + c, c + " "} {
				check(t, fmt.Sprint(kind), leaf(kind), compile(t, leaf(kind), nfa.Way{}), s, nfa.Way{})
			}
		}
	}
}

// P10.1: what stands ahead of where it is begun counts, and the numbers outside of a string are refused.
func TestFrom(t *testing.T) {
	for _, pattern := range []string{"", "a", ".", "a*", "^a", `\<a`, `\Ba`, `\>`, "$", ".*", "(.|..)"} {
		for _, w := range ways() {
			p := parsed(t, pattern, w)
			for _, s := range []string{"", "a", "aba a", "\xc3\xa9a\xe2\x82\xaca\xf0\x9f\x98\x80", "\xf0\x9f\x98", "\xff\xc3\xa9\xa9"} {
				for _, from := range []int{math.MinInt, math.MinInt + 1, -1 << 32, -1, len(s) + 1, len(s) + 2, 1 << 32, math.MaxInt - 1, math.MaxInt} {
					if x, ok := find(p, s, from); ok || x != (span{}) {
						t.Errorf("%q in %q from %d: %v and %v", pattern, s, from, x, ok)
					}
				}
			}
		}
	}
}

// P10.1: a nil program finds nothing.
func TestNilProg(t *testing.T) {
	var p *nfa.Prog
	for _, from := range []int{-1, 0, 1, 2} {
		if x, ok := find(p, "a", from); ok || x != (span{}) {
			t.Errorf("from %d: %v and %v", from, x, ok)
		}
	}
	for range 2 {
		if list := collect(p.All("ab")); len(list) != 0 {
			t.Errorf("All: %v", list)
		}
	}
}

// refused: is a tree refused as it must be?
func refused(t *testing.T, tree api.Rx) {
	t.Helper()
	for _, w := range ways() {
		if p, errno := nfa.Compile(tree, w); p != nil || errno != api.ErrRegex {
			t.Fatalf("%.200s, %+v: %v and %d", fmt.Sprint(tree), w, p != nil, errno)
		}
	}
}

// P10.1: trees that may not be are refused.
func TestRefused(t *testing.T) {
	a := char('a')
	for _, tree := range []api.Rx{
		{}, leaf(-1), leaf(14), leaf(math.MaxInt), leaf(math.MinInt), {Kind: api.RxChar, Kids: kids{a}}, {Kind: api.RxEmpty, Kids: kids{a}}, {Kind: api.RxTail, Kids: kids{a}},
		leaf(api.RxCat), cat(a), leaf(api.RxAlt), alt(a), leaf(api.RxRep), {Kind: api.RxRep, Max: 1, Kids: kids{a, a}},
		rep(a, -1, 1), rep(a, 0, 31), rep(a, 31, -1), rep(a, 2, 1), rep(a, 0, -2), rep(a, math.MinInt, math.MinInt), rep(a, 0, math.MaxInt), rep(leaf(0), 0, 0), rep(cat(a), 0, 0),
		set(false, 'b', 'a'), set(false, -1, 5), set(true, 0, 0x110100), set(false, 'a', 'b', 'c', 'd'), set(false, 'c', 'd', 'a', 'a'), set(false, 'a', 'c', 'b', 'd'),
		cat(a, leaf(0)), alt(a, cat(a)), cat(alt(a, rep(a, 3, 2)), a), rep(rep(a, 15, 15), 14, 14), rep(rep(rep(a, 20, 20), 30, 30), 30, 30),
	} {
		refused(t, tree)
		refused(t, cat(a, tree))
		refused(t, alt(tree, a))
	}
}

// P10.1: the greatest trees that may be, and one more.
func TestLimits(t *testing.T) {
	a := char('a')
	for n := 195; n <= 206; n++ {
		row := api.Rx{Kind: api.RxCat, Kids: slices.Repeat(kids{a}, n)}
		choice := api.Rx{Kind: api.RxAlt, Kids: slices.Repeat(kids{a}, n)}
		nest, empties := a, leaf(api.RxEmpty)
		for i := range n {
			nest = rep(nest, i%2, -1+2*(i%2))
			empties = rep(empties, 1, 1)
		}
		for _, tree := range []api.Rx{row, choice, nest, empties, rep(row, 1, 1), rep(row, 0, -1), cat(rep(a, 30, 30), rep(rep(a, 0, 30), 5, 5), rep(a, n-190, -1))} {
			if rx.Valid(tree) != (rx.Weight(tree) <= 200) {
				t.Fatal("Valid")
			}
			if !rx.Valid(tree) {
				refused(t, tree)
				continue
			}
			for _, w := range ways() {
				p := compile(t, tree, w)
				for _, s := range []string{"", "a", "aa", strings.Repeat("a", 62), strings.Repeat("Aa", 31), strings.Repeat("a", 30) + "b" + strings.Repeat("a", 32)} {
					check(t, fmt.Sprint(tree), tree, p, s, w)
				}
			}
		}
	}
	long := strings.Repeat("a", 300)
	if x, ok := find(compile(t, api.Rx{Kind: api.RxCat, Kids: slices.Repeat(kids{a}, 200)}, nfa.Way{}), "b"+long, 0); !ok || x != (span{1, 201}) {
		t.Errorf("200 characters: %v and %v", x, ok)
	}
}

// P10.1: what is repeated no times may be great and deep.
func TestNoTimes(t *testing.T) {
	a := char('a')
	wide := api.Rx{Kind: api.RxCat, Kids: slices.Repeat(kids{a, set(true, 'a', 'b'), alt(a, a)}, 100000)}
	tree := cat(rep(wide, 0, 0), a)
	check(t, "a wide one", tree, compile(t, tree, nfa.Way{}), "baa", nfa.Way{})
	deep := a
	for range 1023 {
		deep = rep(deep, 0, 0)
	}
	check(t, "a deep one", deep, compile(t, deep, nfa.Way{}), "baa", nfa.Way{})
	refused(t, rep(deep, 0, 0))
	tree = alt(rep(rep(rep(a, 30, 30), 30, 30), 0, 0), char('b'))
	check(t, fmt.Sprint(tree), tree, compile(t, tree, nfa.Way{}), "abb", nfa.Way{})
}

// P10.1: a great set, asked for many times.
func TestGreatSet(t *testing.T) {
	tree := api.Rx{Kind: api.RxSet}
	for code := 1; code < 0x1100ff; code += 2 {
		tree.Set = append(tree.Set, api.Range{Lo: code, Hi: code})
	}
	p := compile(t, rep(rep(tree, 14, 14), 0, 13), nfa.Way{})
	if x, ok := find(p, strings.Repeat("ac", 100), 0); !ok || x != (span{0, 182}) {
		t.Errorf("%v and %v", x, ok)
	}
	if x, ok := find(p, strings.Repeat("ab", 100), 0); !ok || x != (span{}) {
		t.Errorf("%v and %v", x, ok)
	}
}

// copied: the same tree in other memory, each list with room for one more, in which a `~` stands.
func copied(t api.Rx) api.Rx {
	t.Set = append(slices.Clone(t.Set), api.Range{Lo: '~', Hi: '~'})
	t.Set = slices.Clip(t.Set)[:len(t.Set)-1]
	list := make(kids, 0, len(t.Kids)+1)
	for _, kid := range t.Kids {
		list = append(list, copied(kid))
	}
	t.Kids = append(list, char('~'))[:len(list)]
	return t
}

// untouched: is a copy as it was made, spare room included?
func untouched(given, t api.Rx) bool {
	n, k := len(t.Set), len(t.Kids)
	if len(given.Set) != n || len(given.Kids) != k || given.Set[:n+1][n] != (api.Range{Lo: '~', Hi: '~'}) || !reflect.DeepEqual(given.Kids[:k+1][k], char('~')) {
		return false
	}
	for i, kid := range t.Kids {
		if !untouched(given.Kids[i], kid) {
			return false
		}
	}
	return slices.Equal(given.Set, t.Set) && given.Kind == t.Kind && given.Code == t.Code && given.Neg == t.Neg && given.Min == t.Min && given.Max == t.Max
}

// spoil changes all that a tree is made of.
func spoil(t *api.Rx) {
	for i := range t.Set {
		t.Set[i] = api.Range{Lo: 'q', Hi: 'q'}
	}
	for i := range t.Kids {
		spoil(&t.Kids[i])
		t.Kids[i] = char('q')
	}
	*t = char('q')
}

// P10.1 (R3): a tree is neither changed nor kept; a program never changes.
func TestKeepsNothing(t *testing.T) {
	d := probe.Dice(101)
	for range 3000 {
		tree := treeByChance(&d, 4)
		for _, w := range ways() {
			given := copied(tree)
			if p, _ := nfa.Compile(given, w); p != nil {
				if !untouched(given, tree) {
					t.Fatalf("%v was changed: %v", tree, given)
				}
				spoil(&given)
				s := textByChance(&d, 8)
				check(t, fmt.Sprint(tree), tree, p, s, w)
				check(t, fmt.Sprint(tree), tree, p, s, w)
			}
		}
	}
}

// letters: codes that fit each other, or almost.
func letters() []int {
	return []int{'a', 'a', 'a', 'b', 'b', 'A', 'B', '_', ' ', '0', 0xe9, 0xc9, 0xd7, 0xf7, 0x20ac, 0x1100ff, 0x1100c3, 0x1100a9, 0xc3, 0xa9, 0xff}
}

// textByChance: a string of at most so many characters and pieces of some.
func textByChance(d *probe.Dice, most int) string {
	pieces := []string{"a", "a", "a", "b", "b", "A", "B", "_", " ", "0", "\xc3\xa9", "\xc3\x89", "\xc3\x97", "\xc3\xb7", "\xe2\x82\xac", "\xff", "\xc3", "\xa9"}
	if d.Coin() {
		pieces = pieces[:5]
	}
	var s strings.Builder
	for range d.Below(most + 1) {
		s.WriteString(probe.Pick(d, pieces))
	}
	return s.String()
}

// treeByChance: a tree, some of them too heavy to be.
func treeByChance(d *probe.Dice, deep int) api.Rx {
	kind := d.Below(16)
	if deep == 0 && kind < 9 {
		kind += 9
	}
	several := func() kids {
		list := kids{}
		for range 2 + d.Below(2) {
			list = append(list, treeByChance(d, deep-1))
		}
		return list
	}
	switch {
	case kind < 4:
		return cat(several()...)
	case kind < 6:
		return alt(several()...)
	case kind < 9:
		low := d.Below(3)
		high := probe.Pick(d, []int{-1, -1, low, low + 1, low + 2})
		return rep(treeByChance(d, deep-1), low, high)
	case kind == 9:
		return leaf(api.RxAny)
	case kind == 10:
		return leaf(probe.Pick(d, []api.RxKind{api.RxEmpty, api.RxBegin, api.RxEnd, api.RxEdge, api.RxIn, api.RxHead, api.RxTail}))
	case kind == 11:
		return set(d.Coin(), probe.Pick(d, [][]int{{}, {'a', 'a'}, {'B', 'Y', 'a', 'a'}, {'b', 0xc9}, {0xe9, 0xe9, 0x20ac, 0x1100ff}, {0, 0x1100ff}})...)
	}
	return char(probe.Pick(d, letters()))
}

// P10.1, P10.2: trees by chance, in strings by chance.
func TestByChance(t *testing.T) {
	d := probe.Dice(102)
	right := 0
	for range 40000 {
		tree := treeByChance(&d, 4)
		w := probe.Pick(&d, ways())
		if !rx.Valid(tree) {
			refused(t, tree)
			continue
		}
		right++
		p := compile(t, tree, w)
		for range 4 {
			check(t, fmt.Sprint(tree), tree, p, textByChance(&d, 12), w)
		}
		check(t, fmt.Sprint(tree), tree, p, textByChance(&d, 20), w)
	}
	if right < 20000 {
		t.Errorf("just %d trees may be", right)
	}
}

// P10.1, P10.2: all short patterns in all short strings.
func TestShort(t *testing.T) {
	var texts []string
	probe.EachWord("", 4, []string{"a", "b"}, func(s string) { texts = append(texts, s) })
	probe.EachWord("", 5, []string{"a", "b", "|", "*", "(", ")", "$"}, func(pattern string) {
		tree, _, errno := rx.Parse(pattern, false)
		if errno != api.OK {
			return
		}
		p := compile(t, tree, nfa.Way{})
		for _, s := range texts {
			check(t, pattern, tree, p, s, nfa.Way{})
		}
	})
	texts = nil
	probe.EachWord("", 3, []string{"a", "B", " ", "\xc3\xa9", "\xff"}, func(s string) { texts = append(texts, s) })
	probe.EachWord("", 3, []string{"a", ".", "[^b]", "\xc3\xa9", "*", "+", "{2}", "{0,2}", "|", "^", `\y`, `\B`, `\<`, `\>`}, func(pattern string) {
		for _, w := range ways() {
			tree, _, _ := rx.Parse(pattern, w.Bytes)
			p := compile(t, tree, w)
			for _, s := range texts {
				check(t, pattern, tree, p, s, w)
			}
		}
	})
}

// P10.2: the matches, one behind the other.
func TestAll(t *testing.T) {
	for _, c := range []struct {
		pattern, s string
		want       []span
	}{
		{"x", "axbxx", []span{{1, 2}, {3, 4}, {4, 5}}}, {"x", "", nil}, {"x", "abc", nil}, {"", "", []span{{0, 0}}}, {"", "ab", []span{{0, 0}, {1, 1}, {2, 2}}}, {"", "\xc3\xa9\xff", []span{{0, 0}, {2, 2}, {3, 3}}},
		{"a*", "aa", []span{{0, 2}}}, {"a*", "baac", []span{{0, 0}, {1, 3}, {4, 4}}}, {"a*", "abaa", []span{{0, 1}, {2, 4}}}, {"a*", "bb", []span{{0, 0}, {1, 1}, {2, 2}}}, {"a*", "abba", []span{{0, 1}, {2, 2}, {3, 4}}}, {"b|", "abb", []span{{0, 0}, {1, 2}, {2, 3}}},
		{"aa", "aaaaa", []span{{0, 2}, {2, 4}}}, {"^a", "aaa", []span{{0, 1}}}, {"^", "aa", []span{{0, 0}}}, {"$", "aa", []span{{2, 2}}}, {"a*$", "aba", []span{{2, 3}}}, {"a|$", "aba", []span{{0, 1}, {2, 3}}}, {"a|$", "ab", []span{{0, 1}, {2, 2}}}, {`\y`, "ab c", []span{{0, 0}, {2, 2}, {3, 3}, {4, 4}}}, {`ab|\>`, "ab cd", []span{{0, 2}, {5, 5}}}, {`\<.`, "abc d", []span{{0, 1}, {4, 5}}}, {`\Bb`, "bbb", []span{{1, 2}, {2, 3}}}, {"(a|ab)(c|bcd)*", "abcdabc", []span{{0, 4}, {4, 7}}},
		{"a|a.*z", "aabz", []span{{0, 4}}}, {"a|a.*z", "aaba", []span{{0, 1}, {1, 2}, {3, 4}}}, {"a|a.*z|bz", "aabza", []span{{0, 4}, {4, 5}}}, {"ab*c|.", "abbabc", []span{{0, 1}, {1, 2}, {2, 3}, {3, 6}}},
	} {
		if list := collect(parsed(t, c.pattern, nfa.Way{}).All(c.s)); !slices.Equal(list, c.want) {
			t.Errorf("%q in %q: %v instead of %v", c.pattern, c.s, list, c.want)
		}
	}
	if list := collect(parsed(t, "", nfa.Way{Bytes: true}).All("\xc3\xa9")); !slices.Equal(list, []span{{0, 0}, {1, 1}, {2, 2}}) {
		t.Errorf("bytes: %v", list)
	}
}

// P10.2 (R7): an iterator may be gone over again, within itself, by turns with others, and left early.
func TestIterator(t *testing.T) {
	for _, pattern := range []string{"a|a.*z", "a*", "", "b", "(ab|b)+"} {
		p := parsed(t, pattern, nfa.Way{})
		seq, other := p.All("aabababbz"), p.All("bza")
		want, more := collect(seq), collect(other)
		for most := range len(want) + 1 {
			var list []span
			for a, b := range seq {
				if list = append(list, span{a, b}); len(list) >= most {
					break
				}
				if !slices.Equal(collect(seq), want) || !slices.Equal(collect(other), more) {
					t.Fatalf("%q: within itself", pattern)
				}
			}
			if !slices.Equal(list, want[:max(1, most)]) {
				t.Errorf("%q: left early: %v", pattern, list)
			}
		}
		next, stop := iter.Pull2(seq)
		again, halt := iter.Pull2(seq)
		for _, x := range want {
			a, b, _ := next()
			c, d, _ := again()
			if p.Find("bbaa", 1); x != (span{a, b}) || x != (span{c, d}) {
				t.Errorf("%q: by turns: %d to %d and %d to %d", pattern, a, b, c, d)
			}
		}
		if _, _, ok := next(); ok {
			t.Errorf("%q: there are more by turns", pattern)
		}
		stop()
		halt()
	}
}

// P10.2: who stops is called no more.
func TestStops(t *testing.T) {
	for _, pattern := range []string{"", "a", "a*", "$|a"} {
		n := 0
		parsed(t, pattern, nfa.Way{}).All("aba")(func(int, int) bool {
			n++
			return false
		})
		if n != 1 {
			t.Errorf("%q: called %d times", pattern, n)
		}
	}
}

// P10.3: of a choice of texts the match that begins first is found, of those that begin at one place the longest.
func TestLongest(t *testing.T) {
	d := probe.Dice(103)
	for range 30000 {
		var texts []string
		for range 1 + d.Below(5) {
			texts = append(texts, d.Word(4, "abc"))
		}
		s, from := d.Word(40, "abc"), d.Below(4)
		want, must := span{}, false
		for _, text := range texts {
			if from > len(s) {
				break
			}
			if i := strings.Index(s[from:], text); i >= 0 {
				x := span{from + i, from + i + len(text)}
				if !must || x.a < want.a || x.a == want.a && x.b > want.b {
					want, must = x, true
				}
			}
		}
		pattern := strings.Join(texts, "|")
		for _, w := range ways() {
			if got, ok := find(parsed(t, pattern, w), s, from); got != want || ok != must {
				t.Fatalf("%q in %q from %d: %v and %v instead of %v and %v", pattern, s, from, got, ok, want, must)
			}
		}
	}
}

// P10.3: a text of letters is found where it stands.
func TestLetters(t *testing.T) {
	d := probe.Dice(104)
	for range 30000 {
		text, s := d.Word(5, "abXY"), d.Word(60, "abXY")
		if d.Coin() {
			s += text + d.Word(5, "abXY")
		}
		a := strings.Index(s, text)
		got, ok := find(parsed(t, text, nfa.Way{}), s, 0)
		if want := (span{a, a + len(text)}); ok != (a >= 0) || ok && got != want {
			t.Fatalf("%q in %q: %v and %v", text, s, got, ok)
		}
		a = strings.Index(strings.ToLower(s), strings.ToLower(text))
		got, ok = find(parsed(t, text, nfa.Way{Fold: true}), s, 0)
		if want := (span{a, a + len(text)}); ok != (a >= 0) || ok && got != want {
			t.Fatalf("%q in %q, folded: %v and %v", text, s, got, ok)
		}
	}
	for n := 1; n <= 200; n++ {
		text := strings.Repeat("ab", 100)[:n]
		if got, ok := find(parsed(t, text, nfa.Way{}), "xa"+text[:n-1]+"x"+text, 0); !ok || got.b-got.a != n || got.a < 1 {
			t.Errorf("%d letters: %v and %v", n, got, ok)
		}
	}
}

// P10.1, P10.2: long strings, and patterns that lead along many ways.
func TestLong(t *testing.T) {
	const n = 2000
	as := strings.Repeat("a", n)
	for _, pattern := range []string{"(a*)*b", "(a|aa)+b", "(a|a)*b", "((a?){5}){5}b", "(a*a*a*a*)*b", "(.*.*)*b", "a.*z"} {
		p := parsed(t, pattern, nfa.Way{})
		if x, ok := find(p, as, 0); ok || x != (span{}) {
			t.Errorf("%q: %v and %v", pattern, x, ok)
		}
		if list := collect(p.All(as)); len(list) != 0 {
			t.Errorf("%q: %v", pattern, list)
		}
	}
	for pattern, each := range map[string]int{"a": 1, "a|a.*z": 1, "a|a*b": 1, "aa|(a|b)*z": 2, "a{20}|a*$b": 20, "a*": n, "(a|aa)*": n, "(a*)*|b": n, ".+": n, "(^|a)*": n} {
		list := collect(parsed(t, pattern, nfa.Way{}).All(as))
		if len(list) != n/each {
			t.Errorf("%q: %d matches", pattern, len(list))
		}
		for i, x := range list {
			if x != (span{i * each, (i + 1) * each}) {
				t.Fatalf("%q: match %d: %v", pattern, i, x)
			}
		}
	}
}

// P10: what was asked for ahead is of no weight.
func TestAnyOrder(t *testing.T) {
	d := probe.Dice(105)
	type question struct {
		s    string
		from int
	}
	for _, pattern := range []string{"a|a.*z", "(ab|b)*", `\<a|a\>`, "a{2,3}|b?", ".[^a]|$"} {
		tree, _, _ := rx.Parse(pattern, false)
		p := compile(t, tree, nfa.Way{})
		var list []question
		for range 60 {
			s := d.Word(12, "aabz ")
			list = append(list, question{s, d.Below(len(s) + 2)})
		}
		for range 3000 {
			q := probe.Pick(&d, list)
			m := newModel(q.s, nfa.Way{})
			longest := m.longest(tree)
			if d.Coin() {
				if got := collect(p.All(q.s)); !slices.Equal(got, m.all(longest)) {
					t.Fatalf("%q in %q: %v", pattern, q.s, got)
				}
				continue
			}
			got, ok := find(p, q.s, q.from)
			if want, must := m.find(longest, q.from); got != want || ok != must {
				t.Fatalf("%q in %q from %d: %v and %v", pattern, q.s, q.from, got, ok)
			}
		}
	}
}
