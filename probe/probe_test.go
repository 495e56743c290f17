package probe_test

import (
	"math"
	"strings"
	"testing"

	"thresher/probe"
)

func TestDice(t *testing.T) {
	a, b, c := probe.Dice(1), probe.Dice(1), probe.Dice(2)
	differ := 0
	var seen [7]int
	for range 1000 {
		x := a.Next()
		if x != b.Next() {
			t.Fatal("the same number to begin with, and other words")
		}
		if x != c.Next() {
			differ++
		}
		seen[a.Below(7)]++
		b.Next()
		if w := c.Word(3, "xy"); len(w) > 3 || strings.Trim(w, "xy") != "" {
			t.Fatalf("Word: %q", w)
		}
		if p := probe.Pick(&c, []int{4, 5}); p != 4 && p != 5 {
			t.Fatalf("Pick: %d", p)
		}
	}
	for i, n := range seen {
		if n == 0 {
			t.Errorf("Below(7) is never %d", i)
		}
	}
	if differ == 0 {
		t.Error("other numbers to begin with, and the same words")
	}
}

func TestCoin(t *testing.T) {
	d := probe.Dice(3)
	var seen [2]int
	for range 1000 {
		if d.Coin() {
			seen[1]++
		} else {
			seen[0]++
		}
	}
	if seen[0] < 400 || seen[1] < 400 {
		t.Errorf("%v", seen)
	}
}

func TestEachWord(t *testing.T) {
	var all []string
	probe.EachWord("-", 2, []string{"a", "bc"}, func(s string) { all = append(all, s) })
	if got := strings.Join(all, " "); got != "- -a -aa -abc -bc -bca -bcbc" {
		t.Errorf("%q", got)
	}
}

func TestSame(t *testing.T) {
	nan := math.Float64frombits(0xfff8000000000001)
	if !probe.Same(1, 1) || !probe.Same(math.NaN(), nan) || probe.Same(0, math.Copysign(0, -1)) || probe.Same(nan, 1) || probe.Same(1, 2) {
		t.Error("Same")
	}
}
