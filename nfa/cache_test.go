package nfa_test

import (
	"math"
	"slices"
	"strings"
	"testing"

	"thresher/api"
	"thresher/nfa"
	"thresher/probe"
	"thresher/rx"
)

func newCache(t *testing.T, room int) *nfa.Cache {
	t.Helper()
	c, errno := nfa.NewCache(room)
	if c == nil || errno != api.OK {
		t.Fatalf("room %d: %v and %d", room, c != nil, errno)
	}
	if c.Len() != 0 {
		t.Errorf("room %d: %d to begin with", room, c.Len())
	}
	return c
}

// get holds what a cache answers against what is answered without one.
func get(t *testing.T, c *nfa.Cache, text string, w nfa.Way) {
	t.Helper()
	p, errno := c.Get(text, w)
	tree, _, want := rx.Parse(text, w.Bytes)
	if errno != want || (p == nil) != (want != api.OK) {
		t.Fatalf("%.80q, %+v: %v and %d instead of %d", text, w, p != nil, errno, want)
	}
	if p == nil {
		return
	}
	for _, s := range []string{"", "ab", "BAab", "\xc3\xa9\xff", "\xc3\x89.\xc9", "aaa", "A-a"} {
		check(t, text, tree, p, s, w)
	}
}

// P10.4: of patterns, and of wrong ones, a cache answers as if it kept nothing.
func TestCache(t *testing.T) {
	d := probe.Dice(106)
	texts := []string{"", "a", "A", "b", "ab", "a|b", "(", "a)", "[b", "\\", "a{31}", "(a{30}){30}", strings.Repeat("(a)", 67), strings.Repeat("(", 41), strings.Repeat("x", 1024), strings.Repeat("x", 1025), "\xc3\xa9", "\xc3\xa9*", "\xe9", "[\x80-\xff]", "[\xc3\xa9]", "[\xc3-\xa9]", ".", "..", "^a", "[^a]", "a\x00", "a "}
	for _, room := range []int{1, 2, 3, 7, 30, math.MaxInt} {
		c := newCache(t, room)
		for range 3000 {
			get(t, c, probe.Pick(&d, texts), probe.Pick(&d, ways()))
			if n := c.Len(); n < 0 || n > room {
				t.Fatalf("room %d: %d", room, n)
			}
		}
	}
}

// P10.4: one text is asked for in all ways, one behind the other.
func TestCacheWays(t *testing.T) {
	c := newCache(t, 100)
	for range 3 {
		for _, text := range []string{"a", "\xc3\xa9", ".", "[\x80-\xff]", "[a-b]", "\xff", "\xc9"} {
			for _, w := range ways() {
				get(t, c, text, w)
			}
		}
	}
}

// P10.4: a program that was answered goes on when others are asked for.
func TestCachePrograms(t *testing.T) {
	for _, room := range []int{1, 2, 5} {
		c := newCache(t, room)
		texts := strings.Split("abcdefghijkl", "")
		var list []*nfa.Prog
		for _, text := range texts {
			p, errno := c.Get(text, nfa.Way{})
			if p == nil || errno != api.OK {
				t.Fatal(errno)
			}
			list = append(list, p)
		}
		for i, p := range list {
			if x, ok := find(p, "abcdefghijkl", 0); !ok || x != (span{i, i + 1}) {
				t.Errorf("%q: %v and %v", texts[i], x, ok)
			}
		}
		other := newCache(t, room)
		get(t, c, "a", nfa.Way{})
		if other.Len() != 0 {
			t.Error("a cache keeps another one's programs")
		}
	}
}

// P10.4: a cache without room is refused.
func TestNoRoom(t *testing.T) {
	for _, room := range []int{0, -1, -1 << 32, math.MinInt} {
		if c, errno := nfa.NewCache(room); c != nil || errno != api.ErrRange {
			t.Errorf("room %d: %v and %d", room, c != nil, errno)
		}
	}
}

// P10.4: a nil cache answers an error, whatever is asked for.
func TestNilCache(t *testing.T) {
	var c *nfa.Cache
	for _, text := range []string{"a", "(", strings.Repeat("x", 2000)} {
		if p, errno := c.Get(text, nfa.Way{}); p != nil || errno != api.ErrNil {
			t.Errorf("%.80q: %v and %d", text, p != nil, errno)
		}
	}
	if c.Len() != 0 {
		t.Errorf("%d", c.Len())
	}
}

// P10.4: what is refused puts nothing in the place of what isn't.
func TestCacheRefuses(t *testing.T) {
	c := newCache(t, 2)
	for _, text := range slices.Repeat([]string{"(", "a", "[", "a{31}", "b", strings.Repeat("x", 1025), "(a{30}){30}"}, 3) {
		get(t, c, text, nfa.Way{})
		get(t, c, "a", nfa.Way{})
		if n := c.Len(); n < 0 || n > 2 {
			t.Errorf("%.80q: %d", text, n)
		}
	}
}
