package subst_test

import (
	"math"
	"slices"
	"strings"
	"testing"
	"unsafe"

	"thresher/api"
	"thresher/nfa"
	"thresher/probe"
	"thresher/rx"
	"thresher/subst"
)

// span: a match: from a place to a place.
type span struct{ a, b int }

func compile(t *testing.T, text string, w nfa.Way) *nfa.Prog {
	t.Helper()
	tree, _, errno := rx.Parse(text, w.Bytes)
	if errno != api.OK {
		t.Fatalf("%.80q: %d", text, errno)
	}
	p, errno := nfa.Compile(tree, w)
	if p == nil || errno != api.OK {
		t.Fatalf("%.80q: %d", text, errno)
	}
	return p
}

func spans(p *nfa.Prog, s string) []span {
	var list []span
	for a, b := range p.All(s) {
		list = append(list, span{a, b})
	}
	return list
}

// ways: all of them.
func ways() []nfa.Way {
	return []nfa.Way{{}, {Fold: true}, {Bytes: true}, {Fold: true, Bytes: true}}
}

// patterns: such as match one letter, longer texts, nothing at all, and places alone.
func patterns() []string {
	return []string{"", "a", "b", "ab|a", "a*", "b+", "[ab]", "x?", "(ab)*", "^", "$", "^a", "b$", "\\y", "\\<", "\\>", "\\B", ".", "..", ".*", "z", "[^a]", "a|\xc3\xa9", "\xff", "a{2}", "b{0,2}", "&", "[\\\\&]", "\n"}
}

// replacements: with matches, with escapes, and with a `\` that escapes nothing.
func replacements() []string {
	return []string{"", "x", "&", "&&", "<&>", "\\&", "\\\\", "\\\\&", "\\\\\\&", "\\\\\\\\&", "\\x", "x\\", "&\\", "\\\\\\", "&x&&y\\&&", "\xc3\xa9&\xff", "a", "b&a", "\x00&\n", "%s$1\\1\\0"}
}

// replaced tells once more what Replace answers: from the last match to the first, so that the places ahead stay.
func replaced(list []span, s, repl string, which int) (string, int, api.Errno) {
	count := 0
	out := s
	for i, m := range slices.Backward(list) {
		if which < 1 || which == i+1 {
			text := strings.NewReplacer(`\\`, `\`, `\&`, `&`, `&`, s[m.a:m.b]).Replace(repl)
			out = out[:m.a] + text + out[m.b:]
			count++
		}
	}
	if len(out) > 1024 {
		return "", 0, api.ErrLong
	}
	return out, count, api.OK
}

// parted tells once more what stands between the matches that aren't empty.
func parted(list []span, s string) ([]string, []string) {
	var pieces, matches []string
	for _, m := range slices.Backward(list) {
		if m.a < m.b {
			pieces, matches = append(pieces, s[m.b:]), append(matches, s[m.a:m.b])
			s = s[:m.a]
		}
	}
	pieces = append(pieces, s)
	slices.Reverse(pieces)
	slices.Reverse(matches)
	return pieces, matches
}

// shown: so much of a text as is worth telling.
func shown(s string) string { return s[:min(len(s), 200)] }

func checkReplace(t *testing.T, p *nfa.Prog, s, repl string, which int, want string, count int, errno api.Errno) {
	t.Helper()
	if got, n, e := subst.Replace(p, s, repl, which); got != want || n != count || e != errno {
		t.Fatalf("Replace(%q, %q, %d): %q, %d and %d instead of %q, %d and %d", shown(s), shown(repl), which, shown(got), n, e, shown(want), count, errno)
	}
}

func checkSplit(t *testing.T, p *nfa.Prog, s string, pieces, matches []string) {
	t.Helper()
	if a, b := subst.Split(p, s); !slices.Equal(a, pieces) || !slices.Equal(b, matches) {
		t.Fatalf("Split(%q): %q and %q instead of %q and %q", shown(s), a, b, pieces, matches)
	}
}

func checkPieces(t *testing.T, p *nfa.Prog, s string, matches, pieces []string) {
	t.Helper()
	if a, b := subst.Pieces(p, s); !slices.Equal(a, matches) || !slices.Equal(b, pieces) {
		t.Fatalf("Pieces(%q): %q and %q instead of %q and %q", shown(s), a, b, matches, pieces)
	}
}

// checkModel holds what is answered against the chapter told once more, and tells how many matches there are.
func checkModel(t *testing.T, p *nfa.Prog, s string, repls []string) int {
	t.Helper()
	list := spans(p, s)
	for _, repl := range repls {
		for _, which := range []int{math.MinInt, 0, 1, 2, len(list), len(list) + 1} {
			want, n, errno := replaced(list, s, repl, which)
			checkReplace(t, p, s, repl, which, want, n, errno)
		}
	}
	pieces, matches := parted(list, s)
	checkPieces(t, p, s, matches, pieces)
	if s == "" {
		pieces, matches = nil, nil
	}
	checkSplit(t, p, s, pieces, matches)
	return len(list)
}

// P12.1: the examples of the chapter.
func TestExamples(t *testing.T) {
	b := compile(t, "b+", nfa.Way{})
	checkReplace(t, b, "abbcb", "<&\\&>", 0, "a<bb&>c<b&>", 2, api.OK)
	checkReplace(t, b, "abbcb", "x", 2, "abbcx", 1, api.OK)
	checkReplace(t, compile(t, "x*", nfa.Way{}), "abc", "-", 0, "-a-b-c-", 4, api.OK)
	checkSplit(t, compile(t, "[,;]+", nfa.Way{}), "x,;y;", []string{"x", "y", ""}, []string{",;", ";"})
}

// P12.1: what a replacement stands for, read from the left to the right.
func TestReplacement(t *testing.T) {
	p := compile(t, "m+", nfa.Way{})
	for _, row := range []struct{ repl, want string }{
		{"", ""}, {"x", "x"}, {"&", "mm"}, {"&&", "mmmm"}, {"&x&", "mmxmm"}, {"<&>", "<mm>"},
		{`\&`, "&"}, {`\\`, `\`}, {`\\&`, `\mm`}, {`\\\&`, `\&`}, {`\\\\&`, `\\mm`}, {`\\\\\&`, `\\&`}, {`&\&&`, "mm&mm"}, {`&\\&`, `mm\mm`}, {`\&\&`, "&&"},
		{`\`, `\`}, {`\\\`, `\\`}, {`&\`, `mm\`}, {`\x`, `\x`}, {`\\x`, `\x`}, {`\x&`, `\xmm`}, {`\1\0`, `\1\0`}, {`\x\&`, `\x&`}, {"\\\n", "\\\n"}, {"\\\xff&", "\\\xffmm"},
		{"$0%s\x00\xc3\xa9\xff", "$0%s\x00\xc3\xa9\xff"}, {"m", "m"},
	} {
		checkReplace(t, p, "mm", row.repl, 0, row.want, 1, api.OK)
		checkReplace(t, p, "mm", row.repl, 1, row.want, 1, api.OK)
		checkReplace(t, p, "amm\xff", row.repl, 0, "a"+row.want+"\xff", 1, api.OK)
		checkReplace(t, p, "mm", row.repl, 2, "mm", 0, api.OK)
		checkReplace(t, p, "nn", row.repl, 0, "nn", 0, api.OK)
	}
	for b := range 0x100 {
		c := string([]byte{byte(b)})
		if c != "&" {
			checkReplace(t, p, "mm", c, 0, c, 1, api.OK)
		}
		if c != "&" && c != `\` {
			checkReplace(t, p, "mm", `\`+c, 0, `\`+c, 1, api.OK)
		}
	}
	checkReplace(t, p, "mm", "&", 0, "mm", 1, api.OK)
	checkReplace(t, compile(t, ".", nfa.Way{}), `&\`, `\&&`, 0, `&&&\`, 2, api.OK)
}

// P12.1: which matches are replaced.
func TestWhich(t *testing.T) {
	for _, row := range []struct {
		pattern, s string
		which      int
		want       string
		n          int
	}{
		{"b", "abcbdb", 0, "a-c-d-", 3}, {"b", "abcbdb", -1, "a-c-d-", 3}, {"b", "abcbdb", math.MinInt, "a-c-d-", 3}, {"b", "abcbdb", 1, "a-cbdb", 1}, {"b", "abcbdb", 2, "abc-db", 1}, {"b", "abcbdb", 3, "abcbd-", 1}, {"b", "abcbdb", 4, "abcbdb", 0}, {"b", "abcbdb", math.MaxInt, "abcbdb", 0},
		{"a*", "baac", 0, "-b-c-", 3}, {"a*", "baac", 1, "-baac", 1}, {"a*", "baac", 2, "b-c", 1}, {"a*", "baac", 3, "baac-", 1}, {"a*", "baac", 4, "baac", 0},
		{"", "ab", 0, "-a-b-", 3}, {"", "ab", 2, "a-b", 1}, {"", "", 0, "-", 1}, {"", "", 1, "-", 1}, {"", "", 2, "", 0}, {"x*", "", 0, "-", 1}, {"x", "", 0, "", 0}, {"x", "", 1, "", 0},
		{"^", "aa", 0, "-aa", 1}, {"$", "aa", 0, "aa-", 1}, {"^a", "aa", 0, "-a", 1}, {"a$", "aa", 0, "a-", 1}, {"^a", "aa", 2, "aa", 0}, {"aa", "aaa", 0, "-a", 1}, {"a|aa", "aaa", 0, "--", 2}, {"\\y", "a b", 0, "-a- -b-", 4}, {"\\y", "a b", 3, "a -b", 1},
	} {
		checkReplace(t, compile(t, row.pattern, nfa.Way{}), row.s, "-", row.which, row.want, row.n, api.OK)
	}
}

// P12.1: how characters are told and compared is the program's.
func TestWays(t *testing.T) {
	s := "\xc3\xa9\xc3\x89aA"
	for i, want := range []string{"<\xc3\xa9><\xc3\x89><a><A>", "<\xc3\xa9><\xc3\x89><a><A>", "<\xc3><\xa9><\xc3><\x89><a><A>", "<\xc3><\xa9><\xc3><\x89><a><A>"} {
		checkReplace(t, compile(t, ".", ways()[i]), s, "<&>", 0, want, strings.Count(want, "<"), api.OK)
	}
	for i, want := range []string{"-\xc3\x89-A", "----", "-\xc3\x89-A", "-\xc3\x89--"} {
		checkReplace(t, compile(t, "\xc3\xa9|a", ways()[i]), s, "-", 0, want, strings.Count(want, "-"), api.OK)
	}
	checkReplace(t, compile(t, "", nfa.Way{}), "\xc3\xa9", "-", 0, "-\xc3\xa9-", 2, api.OK)
	checkReplace(t, compile(t, "", nfa.Way{Bytes: true}), "\xc3\xa9", "-", 0, "-\xc3-\xa9-", 3, api.OK)
	checkReplace(t, compile(t, ".", nfa.Way{Bytes: true}), "\xc3\xa9", "\xc3&\xa9", 2, "\xc3\xc3\xa9\xa9", 1, api.OK)
	checkSplit(t, compile(t, "A", nfa.Way{Fold: true}), "xaYAz", []string{"x", "Y", "z"}, []string{"a", "A"})
	checkPieces(t, compile(t, ".", nfa.Way{Bytes: true}), "\xc3\xa9", []string{"\xc3", "\xa9"}, []string{"", "", ""})
	checkPieces(t, compile(t, ".", nfa.Way{}), "\xc3\xa9", []string{"\xc3\xa9"}, []string{"", ""})
}

// P12.1: strings are parted by the matches that aren't empty.
func TestParted(t *testing.T) {
	for _, row := range []struct {
		pattern, s      string
		pieces, matches []string
	}{
		{",", "a,b", []string{"a", "b"}, []string{","}}, {",", ",", []string{"", ""}, []string{","}}, {",", ",,", []string{"", "", ""}, []string{",", ","}}, {",+", "a,,b,", []string{"a", "b", ""}, []string{",,", ","}}, {",", ",a", []string{"", "a"}, []string{","}}, {",", "abc", []string{"abc"}, nil},
		{".*", "abc", []string{"", ""}, []string{"abc"}}, {".", "ab", []string{"", "", ""}, []string{"a", "b"}},
		{"", "abc", []string{"abc"}, nil}, {"x*", "ab", []string{"ab"}, nil}, {"x*", "axxbx", []string{"a", "b", ""}, []string{"xx", "x"}}, {"^", "ab", []string{"ab"}, nil}, {"$", "ab", []string{"ab"}, nil}, {"\\y", "a b", []string{"a b"}, nil}, {"^a", "aab", []string{"", "ab"}, []string{"a"}}, {"b$", "abb", []string{"ab", ""}, []string{"b"}}, {"b*$", "abb", []string{"a", ""}, []string{"bb"}},
		{" ", " a  b ", []string{"", "a", "", "b", ""}, []string{" ", " ", " ", " "}}, {"\n", "a\nb\n", []string{"a", "b", ""}, []string{"\n", "\n"}}, {"\xff", "\xc3\xa9\xff\x00", []string{"\xc3\xa9", "\x00"}, []string{"\xff"}},
	} {
		p := compile(t, row.pattern, nfa.Way{})
		checkSplit(t, p, row.s, row.pieces, row.matches)
		checkPieces(t, p, row.s, row.matches, row.pieces)
	}
}

// P12.1: of the empty string Split answers nothing, but Pieces what stands beside no match.
func TestNothing(t *testing.T) {
	for _, pattern := range patterns() {
		for _, w := range ways() {
			p := compile(t, pattern, w)
			checkSplit(t, p, "", nil, nil)
			checkPieces(t, p, "", nil, []string{""})
		}
	}
}

// P12.1, R1: a nil program has no matches.
func TestNil(t *testing.T) {
	checkSplit(t, nil, "", nil, nil)
	checkPieces(t, nil, "", nil, []string{""})
	for _, s := range []string{"a", "abc", "\xff&\\", strings.Repeat("x", 1025)} {
		checkSplit(t, nil, s, []string{s}, nil)
		checkPieces(t, nil, s, nil, []string{s})
	}
	for _, which := range []int{math.MinInt, -1, 0, 1, 2, math.MaxInt} {
		for _, repl := range []string{"", "x", "&", strings.Repeat("x", 1025)} {
			checkReplace(t, nil, "", repl, which, "", 0, api.OK)
			checkReplace(t, nil, "a&\\", repl, which, "a&\\", 0, api.OK)
			checkReplace(t, nil, strings.Repeat("x", 1024), repl, which, strings.Repeat("x", 1024), 0, api.OK)
			checkReplace(t, nil, strings.Repeat("x", 1025), repl, which, "", 0, api.ErrLong)
		}
	}
}

// P12.1: all short strings, by all patterns and replacements.
func TestShort(t *testing.T) {
	matches := 0
	for i, pattern := range patterns() {
		p := compile(t, pattern, ways()[i%4])
		probe.EachWord("", 3, []string{"a", "b", " ", "\xc3\xa9", "&\\"}, func(s string) {
			matches += checkModel(t, p, s, replacements())
		})
		probe.EachWord("", 5, []string{"a", "b", " "}, func(s string) {
			matches += checkModel(t, p, s, []string{"-", "<&\\&>"})
		})
	}
	if matches < 10000 {
		t.Errorf("%d matches", matches)
	}
}

// P12.1: all short replacements.
func TestShortReplacements(t *testing.T) {
	var repls []string
	probe.EachWord("", 6, []string{"\\", "&", "x"}, func(s string) { repls = append(repls, s) })
	for _, pattern := range []string{"a+", "a*", "", "b|."} {
		p := compile(t, pattern, nfa.Way{})
		for _, s := range []string{"", "b", "aa", "&aa\\ba"} {
			checkModel(t, p, s, repls)
		}
	}
}

// P12.1: strings and replacements by chance, some of them long.
func TestChance(t *testing.T) {
	d := probe.Dice(12)
	long, matches := 0, 0
	for range 3000 {
		p := compile(t, probe.Pick(&d, patterns()), probe.Pick(&d, ways()))
		s, repl := d.Word(30, "abab ,;\n&\\\xc3\xa9\xff\xc3\x89AB"), d.Word(12, "ab&&&\\\\\\x\xc3\xa9")
		if d.Below(4) == 0 {
			s, repl = strings.Repeat(s, d.Below(40)), strings.Repeat(repl, d.Below(20))
		}
		matches += checkModel(t, p, s, []string{repl})
		if _, _, errno := subst.Replace(p, s, repl, 0); errno == api.ErrLong {
			long++
		}
	}
	if long < 100 || long > 1500 || matches < 10000 {
		t.Errorf("%d too long, %d matches", long, matches)
	}
}

// P12.1, R4: the greatest length, however it comes about, and one byte more.
func TestGreatest(t *testing.T) {
	x := func(n int) string { return strings.Repeat("x", n) }
	for _, row := range []struct {
		s, repl string
		which   int
		want    string
		n       int
	}{
		{"m", x(1024), 0, x(1024), 1}, {"m", x(1024), 1, x(1024), 1}, {"mm", x(512), 0, x(1024), 2}, {"m" + x(1000), x(24), 0, x(1024), 1}, {x(1000) + "m", x(24), 0, x(1024), 1}, {x(500) + "m" + x(500), x(24), 1, x(1024), 1}, {x(1024) + "m", "", 0, x(1024), 1}, {"m" + x(1024), "", 1, x(1024), 1}, {x(512) + "mmmm" + x(512), "", 0, x(1024), 4}, {x(1023) + "m", "&", 0, x(1023) + "m", 1}, {x(1022) + "m", "&&", 0, x(1022) + "mm", 1}, {x(1022) + "m", "\\&\\\\", 0, x(1022) + "&\\", 1}, {x(1024), x(2000), 0, x(1024), 0}, {x(1023) + "m", x(2000), 2, x(1023) + "m", 0}, {strings.Repeat("m", 1024), "&", 0, strings.Repeat("m", 1024), 1024}, {strings.Repeat("m", 1024), "x", 0, x(1024), 1024}, {strings.Repeat("m", 1024), "x", 1024, strings.Repeat("m", 1023) + "x", 1}, {strings.Repeat("m", 512), "x&", 0, strings.Repeat("xm", 512), 512}, {strings.Repeat("m", 1025), "", 1025, strings.Repeat("m", 1024), 1}, {strings.Repeat("m", 1025), "", 1, strings.Repeat("m", 1024), 1},
	} {
		p := compile(t, "m", nfa.Way{})
		checkReplace(t, p, row.s, row.repl, row.which, row.want, row.n, api.OK)
		checkReplace(t, p, row.s+"y", row.repl, row.which, "", 0, api.ErrLong)
		checkReplace(t, p, "y"+row.s, row.repl, row.which, "", 0, api.ErrLong)
		if row.n > 0 {
			checkReplace(t, p, row.s, row.repl+"y", row.which, "", 0, api.ErrLong)
			checkReplace(t, p, row.s, row.repl+"&", row.which, "", 0, api.ErrLong)
			checkReplace(t, p, row.s, "\\&"+row.repl, row.which, "", 0, api.ErrLong)
		}
	}
	checkReplace(t, compile(t, "m", nfa.Way{}), strings.Repeat("m", 5000), "", 0, "", 5000, api.OK)
	e := compile(t, "", nfa.Way{})
	checkReplace(t, e, x(511), "xx", 0, "", 0, api.ErrLong)
	checkReplace(t, e, x(511), "x", 0, x(1023), 512, api.OK)
	checkReplace(t, e, x(1024), "&", 0, x(1024), 1025, api.OK)
	checkReplace(t, e, x(1023), "x", 1024, x(1024), 1, api.OK)
	checkReplace(t, e, x(1024), "x", 1025, "", 0, api.ErrLong)
	checkReplace(t, e, x(1025), "", 0, "", 0, api.ErrLong)
}

// P12.2: pieces and matches, in turns, are the string; `&` changes nothing.
func TestTurns(t *testing.T) {
	turns := func(pieces, matches []string) string {
		if len(pieces) != len(matches)+1 {
			t.Fatalf("%d pieces, %d matches", len(pieces), len(matches))
		}
		var all strings.Builder
		for i, m := range matches {
			if m == "" {
				t.Fatalf("the match %d is empty", i)
			}
			all.WriteString(pieces[i] + m)
		}
		return all.String() + pieces[len(matches)]
	}
	d := probe.Dice(122)
	for range 20000 {
		p := compile(t, probe.Pick(&d, patterns()), probe.Pick(&d, ways()))
		s := d.Word(40, "aabb ,&\\\n\xc3\xa9\xff")
		matches, pieces := subst.Pieces(p, s)
		if got := turns(pieces, matches); got != s {
			t.Fatalf("Pieces(%q): %q", s, got)
		}
		if s != "" {
			if got := turns(subst.Split(p, s)); got != s {
				t.Fatalf("Split(%q): %q", s, got)
			}
		}
		n := len(spans(p, s))
		checkReplace(t, p, s, "&", 0, s, n, api.OK)
		checkReplace(t, p, s, "&", n+1, s, 0, api.OK)
		if n > 0 {
			checkReplace(t, p, s, "&", 1+d.Below(n), s, 1, api.OK)
		}
	}
}

// P12.3: a letter is replaced, and is split at, wherever it stands.
func TestLetter(t *testing.T) {
	d := probe.Dice(123)
	for _, letter := range strings.Split("abcdefghijklmnopqrstuvwxyzABCDEFGHIJKLMNOPQRSTUVWXYZ", "") {
		for _, w := range []nfa.Way{{}, {Bytes: true}} {
			p := compile(t, letter, w)
			check := func(s string) {
				n := strings.Count(s, letter)
				checkReplace(t, p, s, "<x>", 0, strings.ReplaceAll(s, letter, "<x>"), n, api.OK)
				checkReplace(t, p, s, "", 0, strings.ReplaceAll(s, letter, ""), n, api.OK)
				checkReplace(t, p, s, "[&&]", 1, strings.Replace(s, letter, "["+letter+letter+"]", 1), min(n, 1), api.OK)
				pieces, matches := strings.Split(s, letter), slices.Repeat([]string{letter}, n)
				checkPieces(t, p, s, matches, pieces)
				if s != "" {
					checkSplit(t, p, s, pieces, matches)
				}
			}
			probe.EachWord("", 5, []string{letter, "-", "\xc3\xa9"}, check)
			for range 200 {
				check(d.Word(60, "abcdefghijklmnopqrstuvwxyzABCDEFGHIJKLMNOPQRSTUVWXYZ"+strings.Repeat(letter, 9)+"\xc3\xa9\xff\n&\\"))
			}
		}
	}
}

// P1: long strings and replacements end soon.
func TestLong(t *testing.T) {
	const many = 1 << 20
	a, nothing, all := compile(t, "a", nfa.Way{}), compile(t, "", nfa.Way{}), compile(t, ".*", nfa.Way{})
	long := strings.Repeat("a", many)
	for _, repl := range []string{strings.Repeat("&", many), strings.Repeat("\\", many), strings.Repeat("&\\&", many), strings.Repeat("x", many), strings.Repeat("&x", many)} {
		checkReplace(t, a, long, repl, 0, "", 0, api.ErrLong)
		checkReplace(t, all, long, repl, 0, "", 0, api.ErrLong)
		checkReplace(t, nothing, long, repl, 0, "", 0, api.ErrLong)
		checkReplace(t, a, "", repl, 0, "", 0, api.OK)
		checkReplace(t, a, "b", repl, 1, "b", 0, api.OK)
	}
	checkReplace(t, nothing, "b", strings.Repeat("&", many), 0, "b", 2, api.OK)
	// The matches are empty, so however often they are asked for, there is room.
	checkReplace(t, nothing, strings.Repeat("b", 1024), strings.Repeat("&", many), 0, strings.Repeat("b", 1024), 1025, api.OK)
	checkReplace(t, a, long, "", 0, "", many, api.OK)
	checkReplace(t, a, long, "", many+1, "", 0, api.ErrLong)
	if pieces, matches := subst.Split(a, long); len(pieces) != many+1 || len(matches) != many {
		t.Errorf("%d pieces, %d matches", len(pieces), len(matches))
	}
	if matches, pieces := subst.Pieces(all, long); len(pieces) != 2 || len(matches) != 1 || matches[0] != long {
		t.Errorf("%d pieces, %d matches", len(pieces), len(matches))
	}
}

// apart: does none of these lists share memory with another or with s, spare room and texts too?
func apart(t *testing.T, s string, lists ...[]string) {
	t.Helper()
	texts := map[*byte]bool{unsafe.StringData(s): true}
	for i, list := range lists {
		was := make([][]string, len(lists))
		for j := range lists {
			was[j] = slices.Clone(lists[j])
		}
		room := list[:cap(list)]
		for k := range room {
			room[k] = "changed"
		}
		for j := range lists {
			if j != i && !slices.Equal(lists[j], was[j]) {
				t.Errorf("%q became %q", was[j], lists[j])
			}
		}
		copy(list, was[i])
		for _, text := range list {
			if at := unsafe.StringData(text); text != "" && texts[at] {
				t.Errorf("%q shares its memory", text)
			} else if text != "" {
				texts[at] = true
			}
		}
	}
}

// R3, R8: an answer is new memory, and the same each time, whatever was asked for ahead or is asked for within.
func TestAgain(t *testing.T) {
	s := "abbcb,,b"
	p := compile(t, "b+|,", nfa.Way{})
	for range 3 {
		checkModel(t, p, s, replacements())
		checkModel(t, p, "", replacements())
		pieces, matches := subst.Split(p, s)
		others, more := subst.Pieces(p, s)
		apart(t, s, pieces, matches, others, more)
		whole, none := subst.Split(p, "x")
		apart(t, "x", whole, none)
	}
	for _, row := range []struct{ s, repl string }{{"xyz", "-"}, {"b", "xyz"}, {"xbz", "&"}} {
		got, _, _ := subst.Replace(p, row.s, row.repl, 0)
		if at := unsafe.StringData(got); at == unsafe.StringData(row.s) || at == unsafe.StringData(row.repl) {
			t.Errorf("%q shares its memory", got)
		}
	}
}
