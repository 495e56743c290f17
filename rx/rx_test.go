package rx_test

import (
	"fmt"
	"math"
	"math/big"
	"regexp"
	"slices"
	"strconv"
	"strings"
	"testing"

	"thresher/api"
	"thresher/probe"
	"thresher/rx"
	"thresher/ustr"
)

// kids: what a node of several is made of.
type kids = []api.Rx

func char(code int) api.Rx { return api.Rx{Kind: api.RxChar, Code: code} }

func set(neg bool, bounds ...int) api.Rx {
	node := api.Rx{Kind: api.RxSet, Neg: neg}
	for i := 0; i < len(bounds); i += 2 {
		node.Set = append(node.Set, api.Range{Lo: bounds[i], Hi: bounds[i+1]})
	}
	return node
}

func rep(kid api.Rx, low, high int) api.Rx {
	return api.Rx{Kind: api.RxRep, Min: low, Max: high, Kids: kids{kid}}
}

func cat(list ...api.Rx) api.Rx { return api.Rx{Kind: api.RxCat, Kids: list} }

func alt(list ...api.Rx) api.Rx { return api.Rx{Kind: api.RxAlt, Kids: list} }

func leaf(kind api.RxKind) api.Rx { return api.Rx{Kind: kind} }

// chars: the characters of a text, one behind the other.
func chars(s string) api.Rx {
	var list kids
	for _, code := range ustr.All(s, false) {
		list = append(list, char(code))
	}
	return cat(list...)
}

// same: are two trees the same, in all fields?
func same(a, b api.Rx) bool {
	return a.Kind == b.Kind && a.Code == b.Code && a.Neg == b.Neg && a.Min == b.Min && a.Max == b.Max && slices.Equal(a.Set, b.Set) && slices.EqualFunc(a.Kids, b.Kids, same)
}

// answer: what Parse answers, or must.
type answer struct {
	tree  api.Rx
	at    int
	errno api.Errno
}

// String: what is answered, for a failed test; of a great tree only the beginning.
func (a answer) String() string {
	s := fmt.Sprint(a.tree, " at ", a.at, ": ", int(a.errno))
	return s[:min(len(s), 300)]
}

func (a answer) same(b answer) bool {
	return same(a.tree, b.tree) && a.at == b.at && a.errno == b.errno
}

func parse(s string, bytes bool) answer {
	tree, at, errno := rx.Parse(s, bytes)
	return answer{tree, at, errno}
}

// letter: a character of a pattern: its code, and its place.
type letter struct{ code, at int }

// frame: a group that isn't closed yet: the place of its bracket, its alternatives, and the nodes of the last one.
type frame struct {
	at   int
	alts kids
	row  kids
}

func several(kind api.RxKind, list kids) api.Rx {
	switch len(list) {
	case 0:
		return leaf(api.RxEmpty)
	case 1:
		return list[0]
	}
	return api.Rx{Kind: kind, Kids: list}
}

func (f *frame) bar() {
	f.alts = append(f.alts, several(api.RxCat, f.row))
	f.row = nil
}

func (f *frame) tree() api.Rx {
	f.bar()
	return several(api.RxAlt, f.alts)
}

// model: what Parse must answer, told once more: with a stack of groups, and with places in a list of characters.
type model struct {
	s     string
	text  []letter
	stack []*frame
	fail  answer
}

// told: what Parse must answer.
func told(s string, bytes bool) answer {
	if len(s) > 1024 {
		return answer{errno: api.ErrLong}
	}
	m := model{s: s, stack: []*frame{{at: -1}}}
	for at, code := range ustr.All(s, bytes) {
		m.text = append(m.text, letter{code, at})
	}
	for i := 0; i < len(m.text); {
		i += m.step(i)
		if m.fail.errno != api.OK {
			return m.fail
		}
	}
	last := m.stack[len(m.stack)-1]
	if len(m.stack) > 1 {
		return answer{at: last.at, errno: api.ErrRegex}
	}
	tree := last.tree()
	if weigh(tree).Cmp(big.NewInt(200)) > 0 {
		return answer{errno: api.ErrBig}
	}
	return answer{tree: tree}
}

func (m *model) code(i int) int {
	if i < len(m.text) {
		return m.text[i].code
	}
	return -1
}

// is: does this character stand there?
func (m *model) is(i int, c byte) bool { return m.code(i) == int(c) }

// fault tells one, and that one character is gone past.
func (m *model) fault(i int, errno api.Errno) int {
	m.fail = answer{at: m.text[i].at, errno: errno}
	return 1
}

var interval = regexp.MustCompile(`^\{0*([0-9]+)(?:(,)(?:0*([0-9]+))?)?\}`)

// size: the number of digits without noughts ahead: 31 stands for all that are greater.
func size(digits string) int {
	if len(digits) > 2 {
		return 31
	}
	n, _ := strconv.Atoi(digits)
	return min(n, 31)
}

// step goes past what stands at i, and answers how many characters that is.
func (m *model) step(i int) int {
	top := m.stack[len(m.stack)-1]
	if last := len(top.row) - 1; last >= 0 {
		if n, low, high := m.repeat(i); n > 0 {
			top.row[last] = rep(top.row[last], low, high)
			return n
		}
	}
	simple := map[int]api.RxKind{'.': api.RxAny, '^': api.RxBegin, '$': api.RxEnd}
	code := m.code(i)
	switch {
	case code == '|':
		top.bar()
		return 1
	case code == '(':
		if len(m.stack) > 40 {
			return m.fault(i, api.ErrBig)
		}
		m.stack = append(m.stack, &frame{at: m.text[i].at})
		return 1
	case code == ')':
		if len(m.stack) == 1 {
			return m.fault(i, api.ErrRegex)
		}
		m.stack = m.stack[:len(m.stack)-1]
		below := m.stack[len(m.stack)-1]
		below.row = append(below.row, top.tree())
		return 1
	case code == '[':
		return m.set(i, top)
	case code == '\\':
		node := named(m.code(i + 1))
		if node.Kind == 0 {
			return m.fault(i, api.ErrRegex)
		}
		top.row = append(top.row, node)
		return 2
	case simple[code] != 0:
		top.row = append(top.row, leaf(simple[code]))
		return 1
	}
	top.row = append(top.row, char(code))
	return 1
}

// repeat: how many characters of a repeat stand at i, and its bounds.
func (m *model) repeat(i int) (int, int, int) {
	switch m.code(i) {
	case '*':
		return 1, 0, -1
	case '+':
		return 1, 1, -1
	case '?':
		return 1, 0, 1
	}
	part := interval.FindStringSubmatch(m.s[m.text[i].at:])
	if part == nil {
		return 0, 0, 0
	}
	low, high := size(part[1]), size(part[1])
	if part[2] != "" {
		high = -1
	}
	if part[3] != "" {
		high = size(part[3])
	}
	if low > 30 || high > 30 {
		m.fault(i, api.ErrBig)
	} else if high >= 0 && high < low {
		m.fault(i, api.ErrRegex)
	}
	return len(part[0]), low, high
}

func alnum(code int) bool {
	return code >= '0' && code <= '9' || code >= 'A' && code <= 'Z' || code >= 'a' && code <= 'z'
}

// one: the character that a `\` and a character stand for within a set; -1, if there is none.
func one(code int) int {
	if at := strings.IndexRune("nntt\rrffvvaabb", rune(code)); code > 0 && alnum(code) && at >= 0 {
		return map[int]int{'n': 0x0a, 't': 0x09, 'r': 0x0d, 'f': 0x0c, 'v': 0x0b, 'a': 0x07, 'b': 0x08}[code]
	}
	if alnum(code) {
		return -1
	}
	return code
}

// named: the node that a `\` and a character stand for; without a kind, if there is none.
func named(code int) api.Rx {
	switch code {
	case -1:
		return api.Rx{}
	case 'y', 'B', '<', '>', '`', '\'':
		return leaf(map[int]api.RxKind{'y': api.RxEdge, 'B': api.RxIn, '<': api.RxHead, '>': api.RxTail, '`': api.RxBegin, '\'': api.RxEnd}[code])
	case 'w', 'W':
		return set(code == 'W', '0', '9', 'A', 'Z', '_', '_', 'a', 'z')
	case 's', 'S':
		return set(code == 'S', 9, 13, 32, 32)
	}
	if one(code) < 0 {
		return api.Rx{}
	}
	return char(one(code))
}

// inClass: does a character of ASCII belong to a class?
func inClass(name string, c int) bool {
	digit, lower, upper := c >= '0' && c <= '9', c >= 'a' && c <= 'z', c >= 'A' && c <= 'Z'
	switch name {
	case "alpha":
		return lower || upper
	case "digit":
		return digit
	case "alnum":
		return digit || lower || upper
	case "upper":
		return upper
	case "lower":
		return lower
	case "space":
		return strings.ContainsRune("\t\n\v\f\r ", rune(c))
	case "blank":
		return c == '\t' || c == ' '
	case "punct":
		return c > 0x20 && c < 0x7f && !digit && !lower && !upper
	case "print":
		return c >= 0x20 && c < 0x7f
	case "graph":
		return c > 0x20 && c < 0x7f
	case "cntrl":
		return c < 0x20 || c == 0x7f
	case "xdigit":
		return strings.ContainsRune("0123456789abcdefABCDEF", rune(c))
	}
	panic("no class " + name)
}

var class = regexp.MustCompile(`^\[:(alpha|digit|alnum|upper|lower|space|blank|punct|print|graph|cntrl|xdigit):\]`)

// atom: a part of a set: a class, or one character; bare: without a `\`.
type atom struct {
	class string
	code  int
	bare  bool
}

// set goes past a set: first it is cut into atoms, then those are put together.
func (m *model) set(start int, top *frame) int {
	i := start + 1
	neg := m.is(i, '^')
	if neg {
		i++
	}
	var atoms []atom
	for ; len(atoms) == 0 || !m.is(i, ']'); i++ {
		switch {
		case i >= len(m.text):
			return m.fault(start, api.ErrRegex)
		case m.is(i, '[') && m.is(i+1, ':'):
			part := class.FindStringSubmatch(m.s[m.text[i].at:])
			if part == nil {
				return m.fault(start, api.ErrRegex)
			}
			atoms = append(atoms, atom{class: part[1]})
			i += len(part[0]) - 1
		case m.is(i, '\\'):
			i++
			if one(m.code(i)) < 0 {
				return m.fault(start, api.ErrRegex)
			}
			atoms = append(atoms, atom{code: one(m.code(i))})
		default:
			atoms = append(atoms, atom{code: m.code(i), bare: true})
		}
	}
	ranges, ok := fromAtoms(atoms)
	if !ok {
		return m.fault(start, api.ErrRegex)
	}
	top.row = append(top.row, api.Rx{Kind: api.RxSet, Neg: neg, Set: united(ranges)})
	return i + 1 - start
}

// fromAtoms: the ranges of a set, as they come.
func fromAtoms(atoms []atom) ([]api.Range, bool) {
	var list []api.Range
	for i := 0; i < len(atoms); i++ {
		a := atoms[i]
		switch {
		case a.class != "":
			for c := range 128 {
				if inClass(a.class, c) {
					list = append(list, api.Range{Lo: c, Hi: c})
				}
			}
		case i+2 < len(atoms) && atoms[i+1] == atom{code: '-', bare: true}:
			to := atoms[i+2]
			if to.class != "" || to.code < a.code {
				return nil, false
			}
			list = append(list, api.Range{Lo: a.code, Hi: to.code})
			i += 2
		default:
			list = append(list, api.Range{Lo: a.code, Hi: a.code})
		}
	}
	return list, true
}

// united: ranges joined one by one, until none meets or touches another.
func united(list []api.Range) []api.Range {
	list = slices.Clone(list)
	for changed := true; changed; {
		changed = false
		for i := 1; i < len(list); i++ {
			a, b := list[i-1], list[i]
			switch {
			case a.Hi+1 >= b.Lo && b.Hi+1 >= a.Lo:
				list[i-1] = api.Range{Lo: min(a.Lo, b.Lo), Hi: max(a.Hi, b.Hi)}
				list = slices.Delete(list, i, i+1)
				changed = true
			case b.Lo < a.Lo:
				list[i-1], list[i] = b, a
				changed = true
			}
		}
	}
	return list
}

// weigh: the weight of a tree, however great it is.
func weigh(t api.Rx) *big.Int {
	sum := new(big.Int)
	for _, kid := range t.Kids {
		sum.Add(sum, weigh(kid))
	}
	if t.Kind == api.RxCat {
		return sum
	}
	if t.Kind == api.RxRep {
		times := big.NewInt(int64(t.Max))
		if t.Max < 0 {
			times.Add(big.NewInt(int64(max(0, t.Min))), big.NewInt(1))
		}
		sum.Mul(sum, times)
	}
	return sum.Add(sum, big.NewInt(1))
}

// weight: a weight as it is told.
func weight(t api.Rx) int {
	w := weigh(t)
	if w.Cmp(big.NewInt(1<<20)) > 0 {
		return 1 << 20
	}
	return int(w.Int64())
}

// check holds what is answered of a pattern against what must be.
func check(t *testing.T, s string, bytes bool) {
	t.Helper()
	got, want := parse(s, bytes), told(s, bytes)
	if !got.same(want) {
		t.Fatalf("%.80q, bytes %v: %v instead of %v", s, bytes, got, want)
	}
	if rx.Valid(got.tree) != (got.errno == api.OK) {
		t.Fatalf("%.80q, bytes %v: may be: %v", s, bytes, rx.Valid(got.tree))
	}
	if w := rx.Weight(got.tree); w != weight(got.tree) {
		t.Fatalf("%.80q, bytes %v: weight %d", s, bytes, w)
	}
}

// The chapter's examples.
func TestExamples(t *testing.T) {
	for s, want := range map[string]answer{
		`a|[b-d]{2,}`:  {tree: alt(char('a'), rep(set(false, 'b', 'd'), 2, -1))},
		`*a`:           {tree: chars("*a")},
		`a{1,2`:        {tree: chars("a{1,2")},
		`a||b`:         {tree: alt(char('a'), leaf(api.RxEmpty), char('b'))},
		`a(b`:          {at: 1, errno: api.ErrRegex},
		`a)`:           {at: 1, errno: api.ErrRegex},
		`ab[c`:         {at: 2, errno: api.ErrRegex},
		`a\q`:          {at: 1, errno: api.ErrRegex},
		`a{31}`:        {at: 1, errno: api.ErrBig},
		`(a{30}){30}`:  {at: 0, errno: api.ErrBig},
		`\.\*`:         {tree: chars(".*")},
		"\xc3\xa9\xff": {tree: cat(char(0xe9), char(0x1100ff))},
	} {
		if got := parse(s, false); !got.same(want) {
			t.Errorf("%.80q: %v instead of %v", s, got, want)
		}
	}
}

// P9.1: repeats.
func TestRepeats(t *testing.T) {
	a, star := char('a'), char('*')
	for s, want := range map[string]api.Rx{
		"a*":          rep(a, 0, -1),
		"a+":          rep(a, 1, -1),
		"a?":          rep(a, 0, 1),
		"a{0}":        rep(a, 0, 0),
		"a{30}":       rep(a, 30, 30),
		"a{0030}":     rep(a, 30, 30),
		"a{0,}":       rep(a, 0, -1),
		"a{30,}":      rep(a, 30, -1),
		"a{2,2}":      rep(a, 2, 2),
		"a{0,30}":     rep(a, 0, 30),
		"a*+?{3}":     rep(rep(rep(rep(a, 0, -1), 1, -1), 0, 1), 3, 3),
		"ba*":         cat(char('b'), rep(a, 0, -1)),
		"(ba)*":       rep(cat(char('b'), a), 0, -1),
		"(b|a)?":      rep(alt(char('b'), a), 0, 1),
		"()*":         rep(leaf(api.RxEmpty), 0, -1),
		"^*":          rep(leaf(api.RxBegin), 0, -1),
		"a|*":         alt(a, star),
		"a|**":        alt(a, rep(star, 0, -1)),
		"(*)":         star,
		"(+a)":        chars("+a"),
		"?":           char('?'),
		"+":           char('+'),
		"{2}":         chars("{2}"),
		"{31}":        chars("{31}"),
		"a|{2,1}":     alt(a, chars("{2,1}")),
		"({2}{2})":    cat(char('{'), char('2'), rep(char('}'), 2, 2)),
		"*{2}":        rep(star, 2, 2),
		"a{":          chars("a{"),
		"a{}":         chars("a{}"),
		"a{,}":        chars("a{,}"),
		"a{,2}":       chars("a{,2}"),
		"a{1,2,3}":    chars("a{1,2,3}"),
		"a{1,2":       chars("a{1,2"),
		"a{1":         chars("a{1"),
		"a{-1}":       chars("a{-1}"),
		"a{ 1}":       chars("a{ 1}"),
		"a{1 }":       chars("a{1 }"),
		"a{1,x}":      chars("a{1,x}"),
		"a{99,1":      chars("a{99,1"),
		"a{*":         cat(a, rep(char('{'), 0, -1)),
		"a{{2}":       cat(a, rep(char('{'), 2, 2)),
		"a{1{2}":      cat(a, char('{'), rep(char('1'), 2, 2)),
		"a\\{2}":      chars("a{2}"),
		"}a]":         chars("}a]"),
		"a{\xd9\xa1}": cat(a, char('{'), char(0x661), char('}')),
	} {
		if got := parse(s, false); !got.same(answer{tree: want}) {
			t.Errorf("%.80q: %v instead of %v", s, got, want)
		}
	}
}

// P9.1: groups and alternatives.
func TestGroups(t *testing.T) {
	a, b, c, empty := char('a'), char('b'), char('c'), leaf(api.RxEmpty)
	for s, want := range map[string]api.Rx{
		"":         empty,
		"()":       empty,
		"|":        alt(empty, empty),
		"(|)":      alt(empty, empty),
		"a|":       alt(a, empty),
		"|a":       alt(empty, a),
		"a()b":     cat(a, empty, b),
		"(((a)))":  a,
		"(ab)c":    cat(cat(a, b), c),
		"a(bc)":    cat(a, cat(b, c)),
		"(a|b)|c":  alt(alt(a, b), c),
		"a|(b|c)":  alt(a, alt(b, c)),
		"a|b|c":    alt(a, b, c),
		"ab|c":     alt(cat(a, b), c),
		"a(|b)c":   cat(a, alt(empty, b), c),
		"^.$":      cat(leaf(api.RxBegin), leaf(api.RxAny), leaf(api.RxEnd)),
		"a^$b":     cat(a, leaf(api.RxBegin), leaf(api.RxEnd), b),
		"(^a|b$)":  alt(cat(leaf(api.RxBegin), a), cat(b, leaf(api.RxEnd))),
		"\\y\\B":   cat(leaf(api.RxEdge), leaf(api.RxIn)),
		"\\<a\\>":  cat(leaf(api.RxHead), a, leaf(api.RxTail)),
		"\\`a\\'":  cat(leaf(api.RxBegin), a, leaf(api.RxEnd)),
		"\\w\\W":   cat(set(false, '0', '9', 'A', 'Z', '_', '_', 'a', 'z'), set(true, '0', '9', 'A', 'Z', '_', '_', 'a', 'z')),
		"\\s\\S":   cat(set(false, 9, 13, 32, 32), set(true, 9, 13, 32, 32)),
		"a\nb\x00": cat(a, char('\n'), b, char(0)),
	} {
		if got := parse(s, false); !got.same(answer{tree: want}) {
			t.Errorf("%.80q: %v instead of %v", s, got, want)
		}
	}
}

// P9.1: sets.
func TestSets(t *testing.T) {
	for s, want := range map[string]api.Rx{
		"[a]":               set(false, 'a', 'a'),
		"[^a]":              set(true, 'a', 'a'),
		"[a^]":              set(false, '^', '^', 'a', 'a'),
		"[^^]":              set(true, '^', '^'),
		"[]]":               set(false, ']', ']'),
		"[^]]":              set(true, ']', ']'),
		"[]a]":              set(false, ']', ']', 'a', 'a'),
		"[]-a]":             set(false, ']', 'a'),
		"[ab]":              set(false, 'a', 'b'),
		"[ba]":              set(false, 'a', 'b'),
		"[ca]":              set(false, 'a', 'a', 'c', 'c'),
		"[a-cd-f]":          set(false, 'a', 'f'),
		"[e-gb-f]":          set(false, 'b', 'g'),
		"[a-zd-f]":          set(false, 'a', 'z'),
		"[a-ce-g]":          set(false, 'a', 'c', 'e', 'g'),
		"[a-a]":             set(false, 'a', 'a'),
		"[a-]":              set(false, '-', '-', 'a', 'a'),
		"[-a]":              set(false, '-', '-', 'a', 'a'),
		"[-]":               set(false, '-', '-'),
		"[--]":              set(false, '-', '-'),
		"[---]":             set(false, '-', '-'),
		"[!--]":             set(false, '!', '-'),
		"[a-c-e]":           set(false, '-', '-', 'a', 'c', 'e', 'e'),
		"[a-c-]":            set(false, '-', '-', 'a', 'c'),
		"[*-\\]]":           set(false, '*', ']'),
		"[\\]a]":            set(false, ']', ']', 'a', 'a'),
		"[\\^a]":            set(false, '^', '^', 'a', 'a'),
		"[a\\-z]":           set(false, '-', '-', 'a', 'a', 'z', 'z'),
		"[\\n\\t\\r]":       set(false, 9, 10, 13, 13),
		"[\\f\\v\\a\\b]":    set(false, 7, 8, 11, 12),
		"[\\a-\\r]":         set(false, 7, 13),
		"[\\<\\>]":          set(false, '<', '<', '>', '>'),
		"[\\'\\`]":          set(false, '\'', '\'', '`', '`'),
		"[\\\\]":            set(false, '\\', '\\'),
		"[[]":               set(false, '[', '['),
		"[[-a]":             set(false, '[', 'a'),
		"[A-[]":             set(false, 'A', '['),
		"[[.]":              set(false, '.', '.', '[', '['),
		"[:a]":              set(false, ':', ':', 'a', 'a'),
		"[a:]":              set(false, ':', ':', 'a', 'a'),
		"[\\[:a]":           set(false, ':', ':', '[', '[', 'a', 'a'),
		"[.|(){}*+?$]":      set(false, '$', '$', '(', '+', '.', '.', '?', '?', '{', '}'),
		"[[:digit:]]":       set(false, '0', '9'),
		"[^[:digit:]a]":     set(true, '0', '9', 'a', 'a'),
		"[[:digit:]-a]":     set(false, '-', '-', '0', '9', 'a', 'a'),
		"[[:digit:]-]":      set(false, '-', '-', '0', '9'),
		"[-[:digit:]]":      set(false, '-', '-', '0', '9'),
		"[[:digit:]--a]":    set(false, '-', 'a'),
		"[][:digit:]]":      set(false, '0', '9', ']', ']'),
		"[[:digit:]:-F]":    set(false, '0', 'F'),
		"[\xc3\xa9]":        set(false, 0xe9, 0xe9),
		"[a-\xc3\xa9]":      set(false, 'a', 0xe9),
		"[\xc3\xa9\xa9]":    set(false, 0xe9, 0xe9, 0x1100a9, 0x1100a9),
		"[\x80-\xff]":       set(false, 0x110080, 0x1100ff),
		"[\\\xff]":          set(false, 0x1100ff, 0x1100ff),
		"[\x00-\xff]":       set(false, 0, 0x1100ff),
		"[\\\xc3\xa9-\xff]": set(false, 0xe9, 0x1100ff),
	} {
		if got := parse(s, false); !got.same(answer{tree: want}) {
			t.Errorf("%.80q: %v instead of %v", s, got, want)
		}
	}
}

// P9.1: in byte mode each byte is a character.
func TestBytes(t *testing.T) {
	for s, want := range map[string]api.Rx{
		"\xc3\xa9":      cat(char(0xc3), char(0xa9)),
		"\xc3\xa9*":     cat(char(0xc3), rep(char(0xa9), 0, -1)),
		"[\xc3\xa9]":    set(false, 0xa9, 0xa9, 0xc3, 0xc3),
		"[\x80-\xff]":   set(false, 0x80, 0xff),
		"\\\xff\\\xc3.": cat(char(0xff), char(0xc3), leaf(api.RxAny)),
	} {
		if got := parse(s, true); !got.same(answer{tree: want}) {
			t.Errorf("%.80q: %v instead of %v", s, got, want)
		}
	}
}

// P9.1: the classes have the characters of ASCII that they are to have.
func TestClasses(t *testing.T) {
	for _, name := range []string{"alpha", "digit", "alnum", "upper", "lower", "space", "blank", "punct", "print", "graph", "cntrl", "xdigit"} {
		tree, _, errno := rx.Parse("[[:"+name+":]]", false)
		if errno != api.OK || tree.Kind != api.RxSet || tree.Neg {
			t.Fatalf("%s: %v and %d", name, tree, errno)
		}
		for c := range 0x110100 {
			in := slices.ContainsFunc(tree.Set, func(r api.Range) bool { return r.Lo <= c && c <= r.Hi })
			if in != (c < 0x80 && inClass(name, c)) {
				t.Fatalf("%s: %x is in it: %v", name, c, in)
			}
		}
	}
}

// P9.1: faults, and their places.
func TestFaults(t *testing.T) {
	deep := strings.Repeat("(", 41)
	for s, want := range map[string]answer{
		")":                       {at: 0, errno: api.ErrRegex},
		"(a))b(":                  {at: 3, errno: api.ErrRegex},
		"(":                       {at: 0, errno: api.ErrRegex},
		"((a)":                    {at: 0, errno: api.ErrRegex},
		"(a(b":                    {at: 2, errno: api.ErrRegex},
		"(a(b)":                   {at: 0, errno: api.ErrRegex},
		"(a)|(b|(c)*":             {at: 4, errno: api.ErrRegex},
		"(a[b":                    {at: 2, errno: api.ErrRegex},
		"(a\\":                    {at: 2, errno: api.ErrRegex},
		"[":                       {at: 0, errno: api.ErrRegex},
		"[]":                      {at: 0, errno: api.ErrRegex},
		"[^]":                     {at: 0, errno: api.ErrRegex},
		"[^":                      {at: 0, errno: api.ErrRegex},
		"a[a-":                    {at: 1, errno: api.ErrRegex},
		"a[a\\":                   {at: 1, errno: api.ErrRegex},
		"a[a\\]":                  {at: 1, errno: api.ErrRegex},
		"a[b-a]":                  {at: 1, errno: api.ErrRegex},
		"a[a-[b]":                 {at: 1, errno: api.ErrRegex},
		"[\xff-a]":                {at: 0, errno: api.ErrRegex},
		"[[:nose:]]":              {at: 0, errno: api.ErrRegex},
		"[[:ALPHA:]]":             {at: 0, errno: api.ErrRegex},
		"[[::]]":                  {at: 0, errno: api.ErrRegex},
		"[[:alpha]]":              {at: 0, errno: api.ErrRegex},
		"[[:alpha:]":              {at: 0, errno: api.ErrRegex},
		"[[:]":                    {at: 0, errno: api.ErrRegex},
		"[[:":                     {at: 0, errno: api.ErrRegex},
		"[a[:]":                   {at: 0, errno: api.ErrRegex},
		"[a-[:digit:]]":           {at: 0, errno: api.ErrRegex},
		"[--[:digit:]]":           {at: 0, errno: api.ErrRegex},
		"[\\w]":                   {at: 0, errno: api.ErrRegex},
		"[\\y]":                   {at: 0, errno: api.ErrRegex},
		"[\\B]":                   {at: 0, errno: api.ErrRegex},
		"[\\1]":                   {at: 0, errno: api.ErrRegex},
		"[a-\\s]":                 {at: 0, errno: api.ErrRegex},
		"a|\\":                    {at: 2, errno: api.ErrRegex},
		"\\1":                     {at: 0, errno: api.ErrRegex},
		"\\Y":                     {at: 0, errno: api.ErrRegex},
		"\xc3\xa9\\z":             {at: 2, errno: api.ErrRegex},
		"a{2,1}":                  {at: 1, errno: api.ErrRegex},
		"a{30,0}":                 {at: 1, errno: api.ErrRegex},
		"a{31,2}":                 {at: 1, errno: api.ErrBig},
		"a{2,31}":                 {at: 1, errno: api.ErrBig},
		"a{31,}":                  {at: 1, errno: api.ErrBig},
		"a{18446744073709551617}": {at: 1, errno: api.ErrBig},
		"a{1,4294967297}":         {at: 1, errno: api.ErrBig},
		"a{99}\\":                 {at: 1, errno: api.ErrBig},
		"a\\q{99}":                {at: 1, errno: api.ErrRegex},
		"(a*{99}":                 {at: 3, errno: api.ErrBig},
		deep:                      {at: 40, errno: api.ErrBig},
		"a" + deep + "\\":         {at: 41, errno: api.ErrBig},
		deep[1:]:                  {at: 39, errno: api.ErrRegex},
		deep[1:] + "\\":           {at: 40, errno: api.ErrRegex},
		"((a{30}){30}":            {at: 0, errno: api.ErrRegex},
		"(a{30}){30})":            {at: 11, errno: api.ErrRegex},
		"x(a{30}){30}":            {at: 0, errno: api.ErrBig},
	} {
		if got := parse(s, false); !got.same(want) {
			t.Errorf("%.80q: %v instead of %v", s, got, want)
		}
	}
}

// P9.1: the limits, and one more.
func TestLimits(t *testing.T) {
	for _, bytes := range []bool{false, true} {
		for n := 1020; n < 1030; n++ {
			check(t, strings.Repeat("(", n), bytes)
			check(t, "("+strings.Repeat("a", n-5)+"){0}", bytes)
			check(t, strings.Repeat("\xc3\xa9", n/2), bytes)
		}
		for n := 195; n < 205; n++ {
			check(t, strings.Repeat("a", n), bytes)
			check(t, "a"+strings.Repeat("*", n), bytes)
			check(t, "a"+strings.Repeat("?", n), bytes)
			check(t, "(a|"+strings.Repeat("b", n-5)+"){1}", bytes)
		}
		for n := range 45 {
			check(t, strings.Repeat("(", n)+"a"+strings.Repeat(")", n), bytes)
			check(t, strings.Repeat("(a)", n)+strings.Repeat("(", n)+"a"+strings.Repeat(")", n), bytes)
			check(t, "a{"+strconv.Itoa(n)+"}", bytes)
			check(t, "a{"+strconv.Itoa(n)+",}", bytes)
			check(t, "a{5,"+strconv.Itoa(n)+"}", bytes)
		}
		check(t, "a{"+strings.Repeat("9", 1000)+"}", bytes)
		check(t, "a{"+strings.Repeat("0", 1000)+"7,9}", bytes)
		// The deepest trees that Parse can answer: what is repeated no times weighs nothing.
		check(t, "a"+strings.Repeat(strings.Repeat("*", 190)+"{0}", 5), bytes)
		check(t, "a"+strings.Repeat("{0}", 341), bytes)
	}
	if got := parse(strings.Repeat("(", 1025), false); !got.same(answer{errno: api.ErrLong}) {
		t.Errorf("1025 bytes: %v", got)
	}
}

// P9.1: all short patterns.
func TestShort(t *testing.T) {
	try := func(s string) {
		check(t, s, false)
		check(t, s, true)
	}
	probe.EachWord("", 5, []string{"a", "|", "(", ")", "*", "{1,2}", "[", "]", "\\", "^"}, try)
	probe.EachWord("[", 5, []string{"a", "b", "-", "^", "]", "[", ":", "[:digit:]", "\\", "\xc3\xa9"}, try)
	probe.EachWord("a{", 5, []string{"0", "3", "31", ",", "}", "{", "*", " ", "(", "a"}, try)
	probe.EachWord("", 3, []string{"\\w", "\\y", "\\<", "\\n", "\\", "'", "`", ".", "$", "+", "?", "{", "2", "}", "[:", ":]", "alpha", "\xff", "\xc3", "\xa9", "(", ")", "[^", "[]", "{2,1}", "\x00", "\n"}, try)
	for c := range 256 {
		for _, s := range []string{"?", "\\?", "[?]", "[\\?]", "a?", "[!-?]", "[?-z]", "(?)", "{?}", "a{?}"} {
			try(strings.ReplaceAll(s, "?", string([]byte{byte(c)})))
		}
	}
}

// P9.1: patterns by chance.
func TestByChance(t *testing.T) {
	d := probe.Dice(9)
	pieces := []string{"a", "b", "xyz", ".", "^", "$", "*", "+", "?", "|", "|", "(", "(", "(", ")", ")", ")", "[a-z]", "[^\\]]", "[[:alpha:]_-]", "[", "]", "{", "}", "{2}", "{0}", "{0,}", "{3,5}", "{5,3}", "{31}", "{,2}", "\\", "\\w", "\\S", "\\y", "\\<", "\\n", "\\.", "\\\\", "-", "\xc3\xa9", "\xe2\x82\xac", "\xff", "\xc3", "\x00", "\n"}
	for range 60000 {
		var s strings.Builder
		for range d.Below(30) {
			s.WriteString(probe.Pick(&d, pieces))
		}
		check(t, s.String(), d.Coin())
	}
	for range 40000 {
		check(t, d.Word(40, "ab(|)*+?{}[]^-:\\01,2\xc3\xa9"), d.Coin())
	}
}

// writer writes trees by chance as patterns, with their trees.
type writer struct{ probe.Dice }

// node: a node that may be repeated.
func (w *writer) node(deep int) (string, api.Rx) {
	var s string
	var t api.Rx
	switch n := w.Below(9); {
	case n == 0 && deep > 0:
		s, t = w.choice(deep - 1)
		s = "(" + s + ")"
	case n == 1:
		s, t = w.set()
	case n == 2:
		marks := []struct {
			s    string
			kind api.RxKind
		}{{".", api.RxAny}, {"^", api.RxBegin}, {"$", api.RxEnd}, {"\\`", api.RxBegin}, {"\\'", api.RxEnd}, {"\\y", api.RxEdge}, {"\\B", api.RxIn}, {"\\<", api.RxHead}, {"\\>", api.RxTail}, {"()", api.RxEmpty}}
		m := probe.Pick(&w.Dice, marks)
		s, t = m.s, leaf(m.kind)
	default:
		s, t = w.char()
		t = char(t.Code)
	}
	for w.Below(4) == 0 {
		low, high := w.Below(4), w.Below(4)
		reps := []struct {
			s         string
			low, high int
		}{{"*", 0, -1}, {"+", 1, -1}, {"?", 0, 1}, {"{" + strconv.Itoa(low) + "}", low, low}, {"{" + strconv.Itoa(low) + ",}", low, -1}, {"{" + strconv.Itoa(low) + "," + strconv.Itoa(low+high) + "}", low, low + high}}
		r := probe.Pick(&w.Dice, reps)
		s, t = s+r.s, rep(t, r.low, r.high)
	}
	return s, t
}

// char: a character that stands for itself everywhere.
func (w *writer) char() (string, api.Rx) {
	code := probe.Pick(&w.Dice, []int{'a', 'b', 'Z', '0', '_', '"', ' ', 0, 0x7f, 0x80, 0xe9, 0x20ac, 0x10ffff, '*', '\\', ']', '[', '-', '^', '.', '$', '{', '}', '(', ')', '|', '?', '+', 10})
	s := ustr.Text(code)
	if strings.ContainsAny(s, "*\\][-^.${}()|?+") {
		s = "\\" + s
	}
	return s, char(code)
}

func (w *writer) set() (string, api.Rx) {
	t := api.Rx{Kind: api.RxSet, Neg: w.Coin()}
	s := "["
	if t.Neg {
		s = "[^"
	}
	for range 1 + w.Below(4) {
		a, x := w.char()
		b, y := w.char()
		if x.Code > y.Code || w.Coin() {
			s, t.Set = s+a, append(t.Set, api.Range{Lo: x.Code, Hi: x.Code})
		} else {
			s, t.Set = s+a+"-"+b, append(t.Set, api.Range{Lo: x.Code, Hi: y.Code})
		}
	}
	t.Set = united(t.Set)
	return s + "]", t
}

func (w *writer) row(deep int) (string, api.Rx) {
	var all string
	var list kids
	for range w.Below(4) {
		s, t := w.node(deep)
		all, list = all+s, append(list, t)
	}
	return all, several(api.RxCat, list)
}

func (w *writer) choice(deep int) (string, api.Rx) {
	all, t := w.row(deep)
	list := kids{t}
	for w.Below(3) == 0 {
		s, t := w.row(deep)
		all, list = all+"|"+s, append(list, t)
	}
	return all, several(api.RxAlt, list)
}

// light: may a pattern be that has this tree?
func light(s string, t api.Rx) bool { return len(s) <= 1024 && weight(t) <= 200 }

// P9.1: trees, written and read.
func TestWritten(t *testing.T) {
	w := writer{probe.Dice(10)}
	for range 100000 {
		s, tree := w.choice(4)
		if !light(s, tree) {
			continue
		}
		if got := parse(s, false); !got.same(answer{tree: tree}) {
			t.Fatalf("%.80q: %v instead of %v", s, got, tree)
		}
	}
}

// P9.2: a choice of right patterns is that of their alternatives; brackets around one are that one.
func TestChoices(t *testing.T) {
	w := writer{probe.Dice(11)}
	for range 20000 {
		var texts []string
		var trees kids
		for range 2 + w.Below(3) {
			s, _ := w.row(3)
			tree, at, errno := rx.Parse(s, false)
			if at != 0 || errno != api.OK && errno != api.ErrBig {
				t.Fatalf("%q: %d at %d", s, errno, at)
			}
			if errno == api.OK {
				texts, trees = append(texts, s), append(trees, tree)
			}
		}
		s, want := strings.Join(texts, "|"), several(api.RxAlt, trees)
		if !light(s, want) {
			continue
		}
		if got := parse(s, false); !got.same(answer{tree: want}) {
			t.Fatalf("%.80q: %v instead of %v", s, got, want)
		}
		for range 10 {
			s = "(" + s + ")"
		}
		if got := parse(s, false); !got.same(answer{tree: want}) {
			t.Fatalf("%.80q: %v instead of %v", s, got, want)
		}
	}
}

// P9.3: a `\` ahead of each sign makes it a character.
func TestSigns(t *testing.T) {
	for c := range 0x300 {
		if alnum(c) || strings.ContainsRune("<>'`", rune(c)) {
			continue
		}
		for s, want := range map[string]api.Rx{"\\?": char(c), "(\\?)": char(c), "[\\?]": set(false, c, c), "\\?{1}": rep(char(c), 1, 1)} {
			s = strings.ReplaceAll(s, "?", ustr.Text(c))
			if got := parse(s, false); !got.same(answer{tree: want}) {
				t.Errorf("%q: %v", s, got)
			}
		}
	}
	d := probe.Dice(12)
	for range 20000 {
		s := d.Word(30, ".*+?()[]{}|^$\\-,:aZ09_ ")
		if ustr.Len(s, false) < 2 {
			continue
		}
		var marked strings.Builder
		for _, c := range []byte(s) {
			if !alnum(int(c)) {
				marked.WriteByte('\\')
			}
			marked.WriteByte(c)
		}
		if got := parse(marked.String(), false); !got.same(answer{tree: chars(s)}) {
			t.Fatalf("%q: %v", marked.String(), got)
		}
	}
}

// bounds: numbers at which counting turns.
func bounds() []int {
	return []int{0, 1, 2, 3, 29, 30, 31, 200, 1<<20 - 1, 1 << 20, 1<<20 + 1, 1 << 40, math.MaxInt, -1, -2, -30, math.MinInt}
}

// wild: a tree by chance that needn't be one.
func wild(d *probe.Dice, deep int) api.Rx {
	t := api.Rx{Kind: api.RxKind(d.Below(16) - 1), Code: d.Below(300), Neg: d.Coin(), Min: probe.Pick(d, bounds()), Max: probe.Pick(d, bounds())}
	if d.Coin() {
		t.Min, t.Max = d.Below(4), d.Below(6)-1
	}
	for range d.Below(3) {
		t.Set = append(t.Set, api.Range{Lo: d.Below(5), Hi: d.Below(8)})
	}
	if deep > 0 && d.Below(3) > 0 {
		for range d.Below(4) {
			t.Kids = append(t.Kids, wild(d, deep-1))
		}
	}
	return t
}

// may: whether a tree may be, told once more.
func may(t api.Rx) bool {
	return built(t, 1) && weigh(t).Cmp(big.NewInt(200)) <= 0
}

func built(t api.Rx, level int) bool {
	if level > 1024 {
		return false
	}
	n := len(t.Kids)
	switch t.Kind {
	case api.RxCat, api.RxAlt:
		if n < 2 {
			return false
		}
	case api.RxRep:
		high := t.Max
		if high == -1 {
			high = 30
		}
		if n != 1 || t.Min < 0 || t.Min > high || high > 30 {
			return false
		}
	case api.RxSet:
		if n > 0 || !slices.Equal(united(t.Set), t.Set) {
			return false
		}
		for _, r := range t.Set {
			if r.Lo < 0 || r.Hi > 0x1100ff || r.Lo > r.Hi {
				return false
			}
		}
	case api.RxEmpty, api.RxChar, api.RxAny, api.RxBegin, api.RxEnd, api.RxEdge, api.RxIn, api.RxHead, api.RxTail:
		if n > 0 {
			return false
		}
	default:
		return false
	}
	return !slices.ContainsFunc(t.Kids, func(kid api.Rx) bool { return !built(kid, level+1) })
}

// P9.1: trees that may be, and such as may not.
func TestTrees(t *testing.T) {
	d := probe.Dice(13)
	right := 0
	for range 300000 {
		tree := wild(&d, 3)
		if got, want := rx.Weight(tree), weight(tree); got != want {
			t.Fatalf("%v: weight %d instead of %d", tree, got, want)
		}
		if got, want := rx.Valid(tree), may(tree); got != want {
			t.Fatalf("%v: may be: %v", tree, got)
		} else if got && len(tree.Kids) > 0 {
			right++
		}
	}
	if right < 1000 {
		t.Errorf("of those by chance only %d may be", right)
	}
}

// marred: trees that are a right one but for one thing.
func marred(t api.Rx) kids {
	var list kids
	for i := range t.Kids {
		for _, bad := range marred(t.Kids[i]) {
			whole := t
			whole.Kids = slices.Clone(t.Kids)
			whole.Kids[i] = bad
			list = append(list, whole)
		}
	}
	add := func(change func(t *api.Rx)) {
		bad := t
		bad.Kids, bad.Set = slices.Clone(t.Kids), slices.Clone(t.Set)
		change(&bad)
		list = append(list, bad)
	}
	add(func(t *api.Rx) { t.Kind = 0 })
	add(func(t *api.Rx) { t.Kind = 14 })
	add(func(t *api.Rx) { t.Kind = -1 })
	switch t.Kind {
	case api.RxCat, api.RxAlt:
		add(func(t *api.Rx) { t.Kids = t.Kids[:1] })
		add(func(t *api.Rx) { t.Kids = nil })
		return list
	case api.RxRep:
		add(func(t *api.Rx) { t.Min = -1 })
		add(func(t *api.Rx) { t.Max = -2 })
		add(func(t *api.Rx) { t.Min, t.Max = 3, 2 })
		add(func(t *api.Rx) { t.Min, t.Max = 31, -1 })
		add(func(t *api.Rx) { t.Min, t.Max = 0, 31 })
		add(func(t *api.Rx) { t.Kids = nil })
	case api.RxSet:
		add(func(t *api.Rx) { t.Set = []api.Range{{Lo: -1, Hi: 5}} })
		add(func(t *api.Rx) { t.Set = []api.Range{{Lo: 6, Hi: 5}} })
		add(func(t *api.Rx) { t.Set = []api.Range{{Lo: 6, Hi: 0x110100}} })
		add(func(t *api.Rx) { t.Set = []api.Range{{Lo: 6, Hi: 7}, {Lo: 8, Hi: 9}} })
		add(func(t *api.Rx) { t.Set = []api.Range{{Lo: 6, Hi: 7}, {Lo: 7, Hi: 9}} })
		add(func(t *api.Rx) { t.Set = []api.Range{{Lo: 6, Hi: 7}, {Lo: 1, Hi: 2}} })
		add(func(t *api.Rx) { t.Set = []api.Range{{Lo: 0, Hi: math.MaxInt}, {Lo: math.MinInt, Hi: 2}} })
	}
	add(func(t *api.Rx) { t.Kids = append(t.Kids, leaf(api.RxEmpty)) })
	return list
}

// P9.1: of a right tree each thing that is changed to a wrong one is seen.
func TestMarred(t *testing.T) {
	for _, s := range []string{"", "a", ".", "[a-z0]", "ab", "a|b", "a*", "(a{2,3}|[^b])+.c", "^$\\y\\B\\<\\>"} {
		tree, _, errno := rx.Parse(s, false)
		if errno != api.OK || !rx.Valid(tree) {
			t.Fatalf("%q: %d", s, errno)
		}
		for _, bad := range marred(tree) {
			if rx.Valid(bad) || may(bad) {
				t.Errorf("%q: %v may be", s, bad)
			}
		}
	}
}

// P9.1: fields that a kind doesn't use aren't looked at, and what stands at the bounds may be.
func TestMay(t *testing.T) {
	junk := []api.Range{{Lo: 5, Hi: -5}, {Lo: math.MaxInt, Hi: math.MaxInt}}
	for kind := api.RxEmpty; kind <= api.RxTail; kind++ {
		tree := api.Rx{Kind: kind, Code: math.MinInt, Neg: true, Set: junk, Min: -7, Max: -9}
		switch kind {
		case api.RxCat, api.RxAlt:
			tree.Kids = kids{char(1), char(2)}
		case api.RxRep:
			tree.Kids = kids{char(1)}
			tree.Min, tree.Max = 0, 30
		case api.RxSet:
			tree.Set = []api.Range{{Lo: 0, Hi: 5}, {Lo: 7, Hi: 0x1100ff}}
		}
		if !rx.Valid(tree) {
			t.Errorf("kind %d may not be", kind)
		}
	}
	for _, tree := range []api.Rx{{Kind: api.RxSet}, set(true), rep(char(1), 30, -1), rep(char(1), 0, 0), rep(char(1), 30, 30), char(-1), char(0x1100ff), alt(leaf(api.RxEmpty), leaf(api.RxEmpty))} {
		if !rx.Valid(tree) {
			t.Errorf("%v may not be", tree)
		}
	}
	if rx.Valid(api.Rx{}) {
		t.Error("the zero tree may be")
	}
}

// chain: a node within so many others.
func chain(n, low, high int) api.Rx {
	t := char('a')
	for range n {
		t = rep(t, low, high)
	}
	return t
}

// P1, P9.1: how deep trees are, and how wide.
func TestDeepWide(t *testing.T) {
	for n := 1020; n < 1030; n++ {
		if got := rx.Valid(chain(n, 0, 0)); got != (n < 1024) {
			t.Errorf("a node within %d others may be: %v", n, got)
		}
		side := cat(char('b'), rep(cat(char('b'), chain(n, 0, 0)), 0, 0))
		if got := rx.Valid(side); got != (n+3 < 1024) {
			t.Errorf("a node within %d others may be: %v", n+3, got)
		}
	}
	for _, n := range []int{1, 198, 199, 200, 1 << 16} {
		if got := rx.Valid(chain(n, 1, 1)); got != (n < 200) {
			t.Errorf("%d repeats may be: %v", n, got)
		}
		if got := rx.Weight(chain(n, 1, 1)); got != n+1 {
			t.Errorf("%d repeats weigh %d", n, got)
		}
	}
	for _, n := range []int{20, 1 << 16} {
		if got := rx.Weight(chain(n, 0, -1)); got != n+1 {
			t.Errorf("%d repeats without an end weigh %d", n, got)
		}
		if got := rx.Weight(chain(n, 1, -1)); got != 1<<20 {
			t.Errorf("%d repeats from once on weigh %d", n, got)
		}
		if got := rx.Weight(rep(chain(n, 30, 30), 0, 0)); got != 1 {
			t.Errorf("no times %d repeats weigh %d", n, got)
		}
	}
	for _, n := range []int{199, 200, 201, 1 << 20, 1<<20 + 1} {
		wide := make(kids, n)
		for i := range wide {
			wide[i] = leaf(api.RxAny)
		}
		if w, v := rx.Weight(cat(wide...)), rx.Valid(cat(wide...)); w != min(n, 1<<20) || v != (n <= 200) {
			t.Errorf("%d kids weigh %d, and may be: %v", n, w, v)
		}
		if w, v := rx.Weight(alt(wide...)), rx.Valid(alt(wide...)); w != min(n+1, 1<<20) || v != (n+1 <= 200) {
			t.Errorf("%d alternatives weigh %d, and may be: %v", n, w, v)
		}
	}
}

// ruin changes all that a tree holds.
func ruin(t *api.Rx) {
	for i := range t.Set {
		t.Set[i] = api.Range{Lo: -1, Hi: -1}
	}
	for i := range t.Kids {
		ruin(&t.Kids[i])
		t.Kids[i] = api.Rx{}
	}
}

// R3, R8: an answer is new memory, and the same each time.
func TestAgain(t *testing.T) {
	for _, s := range []string{"a|[b-d]{2,}", "\\w\\s\\W\\S", "[[:alpha:][:punct:]]|[[:space:]]", "((a)(b|))*", "a\\", "[", "(a{30}){30}"} {
		for _, bytes := range []bool{false, true} {
			first := parse(s, bytes)
			keep := told(s, bytes)
			ruin(&first.tree)
			if got := parse(s, bytes); !got.same(keep) {
				t.Errorf("%.80q: %v instead of %v", s, got, keep)
			}
		}
	}
	// Spare room of one list is none of another's.
	tree, _, _ := rx.Parse("[ab]\\w[[:alpha:]]\\w(ab)(cd|e)", false)
	for i := range tree.Kids {
		for range 3 {
			_ = append(tree.Kids[i].Set, api.Range{Lo: -1, Hi: -1})
			_ = append(tree.Kids[i].Kids, api.Rx{})
		}
	}
	if want := told("[ab]\\w[[:alpha:]]\\w(ab)(cd|e)", false).tree; !same(tree, want) {
		t.Errorf("%v instead of %v", tree, want)
	}
}

// R3: what is handed in is not changed.
func TestKept(t *testing.T) {
	d := probe.Dice(14)
	for range 1000 {
		seed := d
		tree, copied := wild(&d, 3), wild(&seed, 3)
		rx.Weight(tree)
		rx.Valid(tree)
		if !same(tree, copied) {
			t.Fatalf("%v was %v", tree, copied)
		}
	}
}
