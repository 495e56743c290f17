package ustr_test

import (
	"iter"
	"math"
	"slices"
	"strings"
	"testing"
	"unsafe"

	"thresher/ustr"
)

// char is a character as the test itself tells it.
type char struct{ at, code, size int }

// encoding: the rune and the length of the encoding that s begins with, by the grammar of RFC 3629; 0 and 0, if there is none.
func encoding(s string) (int, int) {
	tail := func(i int, lo, hi byte) bool { return len(s) > i && lo <= s[i] && s[i] <= hi }
	low := func(i int) int { return int(s[i] & 0x3f) }
	if s == "" {
		return 0, 0
	}
	b := s[0]
	lo, hi := byte(0x80), byte(0xbf)
	switch b {
	case 0xe0:
		lo = 0xa0
	case 0xed:
		hi = 0x9f
	case 0xf0:
		lo = 0x90
	case 0xf4:
		hi = 0x8f
	}
	switch {
	case b < 0x80:
		return int(b), 1
	case 0xc2 <= b && b <= 0xdf && tail(1, lo, hi):
		return int(b&0x1f)<<6 | low(1), 2
	case 0xe0 <= b && b <= 0xef && tail(1, lo, hi) && tail(2, 0x80, 0xbf):
		return int(b&0x0f)<<12 | low(1)<<6 | low(2), 3
	case 0xf0 <= b && b <= 0xf4 && tail(1, lo, hi) && tail(2, 0x80, 0xbf) && tail(3, 0x80, 0xbf):
		return int(b&0x07)<<18 | low(1)<<12 | low(2)<<6 | low(3), 4
	}
	return 0, 0
}

// first: the character that s, which isn't empty, begins with.
func first(s string, bytes bool) char {
	if bytes {
		return char{code: int(s[0]), size: 1}
	}
	if code, size := encoding(s); size > 0 {
		return char{code: code, size: size}
	}
	return char{code: 0x110000 + int(s[0]), size: 1}
}

// chars: the characters of s.
func chars(s string, bytes bool) []char {
	var list []char
	for at := 0; at < len(s); {
		c := first(s[at:], bytes)
		c.at = at
		list = append(list, c)
		at += c.size
	}
	return list
}

// words: all strings of at most so many of these pieces.
func words(most int, pieces ...string) iter.Seq[string] {
	return func(yield func(string) bool) {
		var grow func(s string, left int) bool
		grow = func(s string, left int) bool {
			if !yield(s) {
				return false
			}
			if left == 0 {
				return true
			}
			for _, p := range pieces {
				if !grow(s+p, left-1) {
					return false
				}
			}
			return true
		}
		grow("", most)
	}
}

// byteWords: all strings of at most so many bytes out of those at which the grammar of encodings turns.
func byteWords(most int) iter.Seq[string] {
	const turns = "\x00A\x7f\x80\x8f\x90\x9f\xa0\xbf\xc0\xc1\xc2\xdf\xe0\xe1\xec\xed\xee\xef\xf0\xf1\xf3\xf4\xf5\xff"
	return words(most, strings.Split(turns, "")...)
}

// texts: strings of whole characters, of cut ones and of lone bytes.
func texts(most int) iter.Seq[string] {
	return words(most, "a", "\xc3\xa9", "\xe2\x82\xac", "\xf0\x9f\x98\x80", "\xff", "\xa9", "\xc3", "\xe2\x82")
}

// numbers: those from below 1 to above the length, and the outermost.
func numbers(s string) []int {
	list := []int{math.MinInt, math.MinInt + 1, -1 << 32, math.MaxInt - 1, math.MaxInt, 1<<32 + 1}
	for n := -2; n <= len(s)+3; n++ {
		list = append(list, n)
	}
	return list
}

var modes = []bool{false, true}

// P1.1: the examples of the chapter.
func TestExamples(t *testing.T) {
	const s = "a\xc3\xa9\xff"
	var codes []int
	for _, code := range ustr.All(s, false) {
		codes = append(codes, code)
	}
	if len(codes) != 3 || codes[0] != 0x61 || codes[1] != 0xe9 || codes[2] != 0x1100ff {
		t.Errorf("All: %x", codes)
	}
	if got := ustr.Sub(s, 2, 3, false); got != "\xc3\xa9" {
		t.Errorf("Sub: %x", got)
	}
	if got := ustr.Sub(s, 2, 3, true); got != "\xc3" {
		t.Errorf("Sub of bytes: %x", got)
	}
	if got := ustr.Upper(s, false); got != "A\xc3\x89\xff" {
		t.Errorf("Upper: %x", got)
	}
	if got := ustr.Index(s, "\xa9", false); got != 0 {
		t.Errorf("Index: %d", got)
	}
	if got := ustr.Index(s, "\xa9", true); got != 3 {
		t.Errorf("Index of bytes: %d", got)
	}
	if at, ok := ustr.Place(s, 4, false); at != 4 || !ok {
		t.Errorf("Place of 4: %d, %v", at, ok)
	}
	if at, ok := ustr.Place(s, 5, false); at != 0 || ok {
		t.Errorf("Place of 5: %d, %v", at, ok)
	}
	for _, sign := range []int{0xd7, 0xf7} {
		text := ustr.Text(sign)
		if ustr.Fold(sign, false) != sign || ustr.Lower(text, false) != text || ustr.Upper(text, false) != text {
			t.Errorf("%x is no letter", sign)
		}
	}
}

// P1.1: Next, at places where a character begins and at those within one.
func TestNext(t *testing.T) {
	for s := range byteWords(4) {
		if s == "" {
			continue
		}
		for _, bytes := range modes {
			want := first(s, bytes)
			if code, size := ustr.Next(s, 0, bytes); code != want.code || size != want.size {
				t.Fatalf("Next(%x, 0, %v): %x, %d instead of %x, %d", s, bytes, code, size, want.code, want.size)
			}
		}
	}
	for s := range texts(3) {
		for at := range len(s) {
			for _, bytes := range modes {
				want := first(s[at:], bytes)
				if code, size := ustr.Next(s, at, bytes); code != want.code || size != want.size {
					t.Fatalf("Next(%x, %d, %v): %x, %d instead of %x, %d", s, at, bytes, code, size, want.code, want.size)
				}
			}
		}
	}
}

// P1.1: Next of every rune, whatever stands behind it.
func TestNextOfRunes(t *testing.T) {
	for code := range 0x110000 {
		if 0xd800 <= code && code <= 0xdfff {
			continue
		}
		s := string(rune(code))
		if got, size := ustr.Next(s+"\x80", 0, false); got != code || size != len(s) {
			t.Fatalf("Next of %x: %x, %d", code, got, size)
		}
	}
}

// P1.1: Next, where no character is.
func TestNextOutside(t *testing.T) {
	for _, s := range []string{"", "a", "\xc3\xa9", "\xff\xff"} {
		for _, at := range []int{math.MinInt, -1 << 32, -1, len(s), len(s) + 1, 1 << 32, math.MaxInt} {
			for _, bytes := range modes {
				if code, size := ustr.Next(s, at, bytes); code != 0 || size != 0 {
					t.Errorf("Next(%x, %d, %v): %x, %d", s, at, bytes, code, size)
				}
			}
		}
	}
}

// P1.1: All, as often as one likes, and stopped early.
func TestAll(t *testing.T) {
	for s := range texts(4) {
		for _, bytes := range modes {
			want := chars(s, bytes)
			all := ustr.All(s, bytes)
			for range 2 {
				n := 0
				for at, code := range all {
					if n >= len(want) || at != want[n].at || code != want[n].code {
						t.Fatalf("All(%x, %v), %d: %d, %x", s, bytes, n, at, code)
					}
					n++
				}
				if n != len(want) {
					t.Fatalf("All(%x, %v): %d characters instead of %d", s, bytes, n, len(want))
				}
			}
		}
	}
}

// P1.1: who stops early gets no more, and the next one gets all.
func TestAllStopped(t *testing.T) {
	all := ustr.All("a\xc3\xa9b", false)
	n := 0
	all(func(int, int) bool {
		n++
		return n < 2
	})
	if n != 2 {
		t.Errorf("%d characters, though stopped at the second", n)
	}
	for range all {
		n++
	}
	if n != 5 {
		t.Errorf("%d characters when gone over again", n-2)
	}
}

// P1.1: Text of every rune, of lone bytes, and of numbers that are no codes.
func TestText(t *testing.T) {
	for code := range 0x110000 {
		got := ustr.Text(code)
		if 0xd800 <= code && code <= 0xdfff {
			if got != "" {
				t.Fatalf("Text(%x): %x", code, got)
			}
			continue
		}
		if back, size := encoding(got); back != code || size != len(got) {
			t.Fatalf("Text(%x): %x", code, got)
		}
	}
	for b := range 0x100 {
		if got := ustr.Text(0x110000 + b); got != string([]byte{byte(b)}) {
			t.Errorf("Text(%x): %x", 0x110000+b, got)
		}
	}
	for _, code := range []int{-1, -0x110000, 0x110100, 0x7fffffff, 1<<32 + 'a', -1<<32 + 'a', math.MinInt, math.MaxInt} {
		if got := ustr.Text(code); got != "" {
			t.Errorf("Text(%x): %x", code, got)
		}
	}
}

// P1.1: the bytes of each code are those of its character; in byte mode of ASCII's.
func TestTextOfCharacters(t *testing.T) {
	for s := range byteWords(3) {
		var back strings.Builder
		for _, code := range ustr.All(s, false) {
			back.WriteString(ustr.Text(code))
		}
		if back.String() != s {
			t.Fatalf("the texts of the codes of %x: %x", s, back.String())
		}
	}
	if got := ustr.Text(0xe9); got != "\xc3\xa9" {
		t.Errorf("byte mode's code E9 is a rune here: %x", got)
	}
}

// P1.1: Len and Place, of all numbers.
func TestLenAndPlace(t *testing.T) {
	for s := range texts(4) {
		for _, bytes := range modes {
			list := chars(s, bytes)
			if got := ustr.Len(s, bytes); got != len(list) {
				t.Fatalf("Len(%x, %v): %d instead of %d", s, bytes, got, len(list))
			}
			for _, n := range numbers(s) {
				want, good := 0, 1 <= n && n <= len(list)+1
				if good && n <= len(list) {
					want = list[n-1].at
				} else if good {
					want = len(s)
				}
				if at, ok := ustr.Place(s, n, bytes); at != want || ok != good {
					t.Fatalf("Place(%x, %d, %v): %d, %v instead of %d, %v", s, n, bytes, at, ok, want, good)
				}
			}
		}
	}
	for s := range byteWords(3) {
		if got, want := ustr.Len(s, false), len(chars(s, false)); got != want {
			t.Fatalf("Len(%x): %d instead of %d", s, got, want)
		}
	}
}

// P1.1: Sub, of all numbers.
func TestSub(t *testing.T) {
	for s := range texts(3) {
		for _, bytes := range modes {
			list := chars(s, bytes)
			for _, from := range numbers(s) {
				for _, to := range numbers(s) {
					want := ""
					for i, c := range list {
						if from <= i+1 && i+1 < to {
							want += s[c.at : c.at+c.size]
						}
					}
					if got := ustr.Sub(s, from, to, bytes); got != want {
						t.Fatalf("Sub(%x, %d, %d, %v): %x instead of %x", s, from, to, bytes, got, want)
					}
				}
			}
		}
	}
}

// R3: an answer shares no memory with what is handed in.
func TestAnswersAreNew(t *testing.T) {
	s := strings.Repeat("a1", 20)
	for name, got := range map[string]string{"Sub": ustr.Sub(s, 1, 41, false), "Sub of bytes": ustr.Sub(s, 1, 41, true), "Lower": ustr.Lower(s, false), "Upper": ustr.Upper(strings.ToUpper(s), true)} {
		if len(got) != len(s) || unsafe.StringData(got) == unsafe.StringData(s) {
			t.Errorf("%s: %q shares its memory", name, got)
		}
	}
}

// P1.1: Index: a string begins where a character begins, and ends anywhere.
func TestIndex(t *testing.T) {
	for s := range texts(4) {
		for u := range texts(2) {
			for _, bytes := range modes {
				if got, want := ustr.Index(s, u, bytes), index(s, u, bytes); got != want {
					t.Fatalf("Index(%x, %x, %v): %d instead of %d", s, u, bytes, got, want)
				}
			}
		}
	}
	for s := range texts(3) {
		for _, u := range []string{"\xac", "\x82\xac", "\x80", "\x98\x80", "\x9f\x98\x80", "\x80a", "\x80\xa9"} {
			if got, want := ustr.Index(s, u, false), index(s, u, false); got != want {
				t.Fatalf("Index(%x, %x): %d instead of %d", s, u, got, want)
			}
		}
	}
	for s := range byteWords(3) {
		for _, u := range []string{"A", "\x80", "\xbf", "\xc2", "\xe1", "\x80\x80", "\x80A", "\x9f\x80", "\xe1\x80", "\xf1\x80", "\xffA"} {
			if got, want := ustr.Index(s, u, false), index(s, u, false); got != want {
				t.Fatalf("Index(%x, %x): %d instead of %d", s, u, got, want)
			}
		}
	}
}

// index: Index, by its words.
func index(s, u string, bytes bool) int {
	if u == "" {
		return 0
	}
	for i, c := range chars(s, bytes) {
		if strings.HasPrefix(s[c.at:], u) {
			return i + 1
		}
	}
	return 0
}

// P1.1: Index, where the string stands in itself, and nearly stands.
func TestIndexRepeats(t *testing.T) {
	for s := range words(10, "a", "b") {
		for _, u := range []string{"aa", "ab", "aab", "abab", "ababb", "aabaa", "aabaab", "abaababa"} {
			if got, want := ustr.Index(s, u, false), strings.Index(s, u)+1; got != want {
				t.Fatalf("Index(%s, %s): %d instead of %d", s, u, got, want)
			}
		}
	}
	for s := range words(4, "\xc3\xa9", "\xa9", "\xa9\xc3\xa9") {
		for u := range words(3, "\xa9", "\xc3\xa9", "\xc3") {
			if got, want := ustr.Index(s, u, false), index(s, u, false); got != want {
				t.Fatalf("Index(%x, %x): %d instead of %d", s, u, got, want)
			}
		}
	}
}

// P1.1: Index ends soon, though the string stands at very many places within characters.
func TestIndexLong(t *testing.T) {
	const n = 1 << 20
	s := strings.Repeat("\xc3\xa9", n)
	u := "\xa9" + strings.Repeat("\xc3\xa9", n/2)
	if got := ustr.Index(s, u, false); got != 0 {
		t.Errorf("Index: %d", got)
	}
	if got := ustr.Index(s+u, u, false); got != n+1 {
		t.Errorf("Index at the end: %d", got)
	}
	if got := ustr.Index(s, u, true); got != 2 {
		t.Errorf("Index of bytes: %d", got)
	}
	if got := ustr.Index("a", s, false); got != 0 {
		t.Errorf("Index of the longer one: %d", got)
	}
}

// The letters, each capital at the place of its small letter.
const (
	capitals      = "ABCDEFGHIJKLMNOPQRSTUVWXYZ"
	smalls        = "abcdefghijklmnopqrstuvwxyz"
	wideCapitals  = "ÀÁÂÃÄÅÆÇÈÉÊËÌÍÎÏÐÑÒÓÔÕÖØÙÚÛÜÝÞ"
	wideSmalls    = "àáâãäåæçèéêëìíîïðñòóôõöøùúûüýþ"
	otherAlphabet = "ßÿŸĀāΑαАаǅſ\u212a\u212b×÷µªº"
)

// partners: each letter's other form, told from the capitals' or the small letters' side.
func partners(from, to string) map[int]int {
	list := map[int]int{}
	others := []rune(to)
	for i, r := range []rune(from) {
		list[int(r)] = int(others[i])
	}
	return list
}

// small and great: the letters of a mode.
func small(bytes bool) map[int]int {
	if bytes {
		return partners(capitals, smalls)
	}
	return partners(capitals+wideCapitals, smalls+wideSmalls)
}

func great(bytes bool) map[int]int {
	if bytes {
		return partners(smalls, capitals)
	}
	return partners(smalls+wideSmalls, capitals+wideCapitals)
}

// P1.1: Fold of all codes, and of numbers that are none.
func TestFold(t *testing.T) {
	for _, bytes := range modes {
		lower := small(bytes)
		check := func(code int) {
			want, ok := lower[code]
			if !ok {
				want = code
			}
			if got := ustr.Fold(code, bytes); got != want {
				t.Errorf("Fold(%x, %v): %x instead of %x", code, bytes, got, want)
			}
		}
		for code := -0x200; code < 0x110200; code++ {
			check(code)
		}
		for _, code := range []int{math.MinInt, math.MinInt + 32, math.MaxInt, 1<<32 + 'A', -1<<32 + 'A'} {
			check(code)
		}
	}
}

// P1.1, P1.3: Lower and Upper of each character alone.
func TestCaseOfEach(t *testing.T) {
	lower, upper := small(false), great(false)
	for code := range 0x110000 {
		text := string(rune(code))
		checkCase(t, text, false, swapped(text, code, lower), swapped(text, code, upper))
	}
	lower, upper = small(true), great(true)
	for b := range 0x100 {
		text := string([]byte{byte(b)})
		checkCase(t, text, true, swapped(text, b, lower), swapped(text, b, upper))
		if b >= 0x80 {
			checkCase(t, text, false, text, text)
		}
	}
}

// swapped: a character's text, or that of its other form.
func swapped(text string, code int, forms map[int]int) string {
	if other, ok := forms[code]; ok {
		return string(rune(other))
	}
	return text
}

func checkCase(t *testing.T, s string, bytes bool, lower, upper string) {
	t.Helper()
	if got := ustr.Lower(s, bytes); got != lower || len(got) != len(s) {
		t.Errorf("Lower(%x, %v): %x instead of %x", s, bytes, got, lower)
	}
	if got := ustr.Upper(s, bytes); got != upper || len(got) != len(s) {
		t.Errorf("Upper(%x, %v): %x instead of %x", s, bytes, got, upper)
	}
}

// P1.1: Lower and Upper of longer strings; bytes that begin no encoding stay.
func TestCase(t *testing.T) {
	const lone = "\xc3Zz\xe9\xc9\xc3"
	checkCase(t, "", false, "", "")
	checkCase(t, "", true, "", "")
	checkCase(t, capitals+wideCapitals+smalls+wideSmalls, false, smalls+wideSmalls+smalls+wideSmalls, capitals+wideCapitals+capitals+wideCapitals)
	checkCase(t, otherAlphabet, false, otherAlphabet, otherAlphabet)
	checkCase(t, wideCapitals+wideSmalls, true, wideCapitals+wideSmalls, wideCapitals+wideSmalls)
	checkCase(t, "@[`{09-_", false, "@[`{09-_", "@[`{09-_")
	checkCase(t, lone, false, "\xc3zz\xe9\xc9\xc3", "\xc3ZZ\xe9\xc9\xc3")
	checkCase(t, lone, true, "\xc3zz\xe9\xc9\xc3", "\xc3ZZ\xe9\xc9\xc3")
}

// P1.2: cut ahead of a character, at both parts a string is what it was.
func TestCut(t *testing.T) {
	for s := range texts(4) {
		for _, bytes := range modes {
			for number, cut := range places(s, bytes) {
				checkCut(t, s, cut, number, bytes)
			}
		}
	}
}

// places: those where a character begins, and the end.
func places(s string, bytes bool) []int {
	var list []int
	for at := range ustr.All(s, bytes) {
		list = append(list, at)
	}
	return append(list, len(s))
}

// checkCut: ahead of the cut stand so many characters.
func checkCut(t *testing.T, s string, cut, number int, bytes bool) {
	t.Helper()
	left, right := s[:cut], s[cut:]
	if at, ok := ustr.Place(s, number+1, bytes); at != cut || !ok || ustr.Len(left, bytes) != number {
		t.Fatalf("%x, %v: %d characters ahead of %d; Place: %d, %v", s, bytes, ustr.Len(left, bytes), cut, at, ok)
	}
	if ustr.Len(left, bytes)+ustr.Len(right, bytes) != ustr.Len(s, bytes) {
		t.Fatalf("Len of %x and %x, %v", left, right, bytes)
	}
	if ustr.Sub(s, 1, number+1, bytes) != left || ustr.Sub(s, number+1, len(s)+1, bytes) != right {
		t.Fatalf("Sub of %x at the character %d, %v", s, number, bytes)
	}
	if ustr.Lower(left, bytes)+ustr.Lower(right, bytes) != ustr.Lower(s, bytes) || ustr.Upper(left, bytes)+ustr.Upper(right, bytes) != ustr.Upper(s, bytes) {
		t.Fatalf("Lower or Upper of %x and %x, %v", left, right, bytes)
	}
	var whole, parts []char
	for at, code := range ustr.All(s, bytes) {
		whole = append(whole, char{at: at, code: code})
	}
	for at, code := range ustr.All(left, bytes) {
		parts = append(parts, char{at: at, code: code})
	}
	for at, code := range ustr.All(right, bytes) {
		parts = append(parts, char{at: cut + at, code: code})
	}
	if !slices.Equal(whole, parts) {
		t.Fatalf("%x, cut at %d, %v: %v instead of %v", s, cut, bytes, parts, whole)
	}
}

// P1.3: Lower and Upper keep how many bytes there are.
func TestCaseKeepsBytes(t *testing.T) {
	for s := range words(4, "a", "Z", "\xc3\x89", "\xc3\xbe", "\xc3\xbf", "\xc4\xb0", "\xe1\xba\x9e", "\xc3", "\xe9", "\xc9") {
		for _, bytes := range modes {
			if lower, upper := ustr.Lower(s, bytes), ustr.Upper(s, bytes); len(lower) != len(s) || len(upper) != len(s) {
				t.Fatalf("%x, %v: Lower %x, Upper %x", s, bytes, lower, upper)
			}
		}
	}
}
