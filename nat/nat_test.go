package nat_test

import (
	"iter"
	"math"
	"math/big"
	"slices"
	"strings"
	"testing"

	"thresher/api"
	"thresher/nat"
)

// whole: the number that limbs are, by the chapter's sum.
func whole(a []uint32) *big.Int {
	sum := new(big.Int)
	for i := len(a) - 1; i >= 0; i-- {
		sum.Lsh(sum, 32).Add(sum, new(big.Int).SetUint64(uint64(a[i])))
	}
	return sum
}

// limbs: the natural that a number is.
func limbs(n *big.Int) []uint32 {
	var list []uint32
	low := new(big.Int).SetUint64(math.MaxUint32)
	for rest := new(big.Int).Set(n); rest.Sign() > 0; rest.Rsh(rest, 32) {
		list = append(list, uint32(new(big.Int).And(rest, low).Uint64()))
	}
	return list
}

// answer: what a call answers whose exact answer is n.
func answer(n *big.Int) ([]uint32, api.Errno) {
	if list := limbs(n); len(list) <= api.MaxLimbs {
		return list, api.OK
	}
	return nil, api.ErrLong
}

// edgy: all naturals of at most so many of these limbs.
func edgy(most int, parts ...uint32) iter.Seq[[]uint32] {
	return func(yield func([]uint32) bool) {
		var grow func(a []uint32) bool
		grow = func(a []uint32) bool {
			if (len(a) == 0 || a[len(a)-1] != 0) && !yield(a) {
				return false
			}
			if len(a) == most {
				return true
			}
			for _, part := range parts {
				if !grow(append(slices.Clone(a), part)) {
					return false
				}
			}
			return true
		}
		grow(nil)
	}
}

// edges: the limbs at which carries and guesses turn.
var edges = []uint32{0, 1, 0x7fffffff, 0x80000000, 0xfffffffe, math.MaxUint32}

// dice makes limbs, always the same ones.
type dice uint64

func (d *dice) next() uint32 {
	*d = *d*6364136223846793005 + 1442695040888963407
	return uint32(*d >> 32)
}

// natural: one of so many limbs, of which some stand at the edges.
func (d *dice) natural(n int) []uint32 {
	a := make([]uint32, n)
	for i := range a {
		a[i] = d.next()
		if d.next()>>30 == 0 {
			a[i] = edges[d.next()>>16%uint32(len(edges))]
		}
	}
	if n > 0 && a[n-1] == 0 {
		a[n-1] = 1
	}
	return a
}

// full: n limbs that are as great as limbs can be.
func full(n int) []uint32 {
	return slices.Repeat([]uint32{math.MaxUint32}, n)
}

// power: 2 to the k.
func power(k int) []uint32 {
	return append(make([]uint32, k/32), 1<<(k%32))
}

// longs: naturals up to the greatest, and their neighbours.
func longs() [][]uint32 {
	d := dice(1)
	list := [][]uint32{nil, {1}, {2}, {10}, {math.MaxUint32}, power(32), power(33), power(32 * 128), power(32*128 - 1), power(32 * 255), power(32*256 - 1), full(2), full(127), full(128), full(129), full(255), full(256)}
	for _, n := range []int{1, 2, 3, 7, 64, 100, 127, 128, 129, 200, 255, 256} {
		list = append(list, d.natural(n))
	}
	return list
}

// noNaturals: lists that are no naturals.
func noNaturals() [][]uint32 {
	return [][]uint32{{0}, {1, 0}, {0, 0}, {5, 7, 0}, full(257), power(32 * 256), append(full(255), 0), append(full(256), 0), make([]uint32, 256), make([]uint32, 1000), full(1000)}
}

// checkTwo holds sum, difference, product and quotient of two naturals against the exact ones.
func checkTwo(t *testing.T, a, b []uint32) {
	t.Helper()
	x, y := whole(a), whole(b)
	check := func(name string, got []uint32, e api.Errno, exact *big.Int) {
		t.Helper()
		want, f := answer(exact)
		if exact.Sign() < 0 {
			want, f = nil, api.ErrRange
		}
		if e != f || !slices.Equal(got, want) {
			t.Fatalf("%s(%x, %x): %x, %d instead of %x, %d", name, a, b, got, e, want, f)
		}
	}
	sum, e := nat.Add(a, b)
	check("Add", sum, e, new(big.Int).Add(x, y))
	left, e := nat.Sub(a, b)
	check("Sub", left, e, new(big.Int).Sub(x, y))
	product, e := nat.Mul(a, b)
	check("Mul", product, e, new(big.Int).Mul(x, y))
	if got, want := nat.Cmp(a, b), x.Cmp(y); got != want {
		t.Fatalf("Cmp(%x, %x): %d instead of %d", a, b, got, want)
	}
	quotient, left, e := nat.Div(a, b)
	if y.Sign() == 0 {
		if e != api.ErrRange || len(quotient) != 0 || len(left) != 0 {
			t.Fatalf("Div(%x, %x): %x, %x, %d", a, b, quotient, left, e)
		}
		return
	}
	exact, rest := new(big.Int).QuoRem(x, y, new(big.Int))
	check("Div", quotient, e, exact)
	check("what Div leaves", left, e, rest)
}

// P2.1: the examples of the chapter.
func TestExamples(t *testing.T) {
	a, e := nat.Parse("18446744073709551616")
	if e != api.OK || !slices.Equal(a, []uint32{0, 0, 1}) {
		t.Errorf("Parse: %x, %d", a, e)
	}
	quotient, left, e := nat.Div(a, []uint32{0, 3})
	if e != api.OK || !slices.Equal(quotient, []uint32{0x55555555}) || !slices.Equal(left, []uint32{0, 1}) {
		t.Errorf("Div: %x, %x, %d", quotient, left, e)
	}
	if got, e := nat.Sub([]uint32{1}, []uint32{2}); e != api.ErrRange || len(got) != 0 {
		t.Errorf("Sub: %x, %d", got, e)
	}
	if got, e := nat.Add([]uint32{1, 0}, []uint32{1}); e != api.ErrNumber || len(got) != 0 {
		t.Errorf("Add: %x, %d", got, e)
	}
	a, e = nat.Shl([]uint32{1}, 100)
	if e != api.OK || nat.Bits(a) != 101 {
		t.Errorf("Shl: %x, %d", a, e)
	}
	if got, e := nat.Text(a); e != api.OK || got != "1267650600228229401496703205376" {
		t.Errorf("Text: %s, %d", got, e)
	}
}

// P2.1: From of numbers with one limb, with two, and with none.
func TestFrom(t *testing.T) {
	for _, n := range []uint64{0, 1, 2, 1<<31 - 1, 1 << 31, 1<<32 - 1, 1 << 32, 1<<32 + 1, 1<<63 - 1, 1 << 63, 1<<64 - 1, 0xfedcba9876543210} {
		got, want := nat.From(n), limbs(new(big.Int).SetUint64(n))
		if !slices.Equal(got, want) || !nat.Valid(got) {
			t.Errorf("From(%d): %x instead of %x", n, got, want)
		}
	}
}

// P2.1: Valid, at the greatest length and at a last limb of 0.
func TestValid(t *testing.T) {
	for _, a := range append(longs(), []uint32{}, []uint32{0, 1}, []uint32{0, 0, 1}) {
		if !nat.Valid(a) {
			t.Errorf("Valid(%x): false", a)
		}
	}
	for _, a := range noNaturals() {
		if nat.Valid(a) {
			t.Errorf("Valid(%x): true", a)
		}
	}
}

// P2.1: Bits of each power of 2 that is a natural, and of its neighbours.
func TestBits(t *testing.T) {
	if got := nat.Bits(nil); got != 0 {
		t.Errorf("Bits of 0: %d", got)
	}
	for k := range 32 * api.MaxLimbs {
		a := power(k)
		below := limbs(new(big.Int).Sub(whole(a), big.NewInt(1)))
		if nat.Bits(a) != k+1 || nat.Bits(below) != k {
			t.Fatalf("Bits of 2 to the %d: %d; of the number below: %d", k, nat.Bits(a), nat.Bits(below))
		}
	}
	for _, a := range longs() {
		if got, want := nat.Bits(a), whole(a).BitLen(); got != want {
			t.Errorf("Bits(%x): %d instead of %d", a, got, want)
		}
	}
}

// P2.1, P2.2: naturals of few limbs that stand at the edges, each with each.
func TestTwoShort(t *testing.T) {
	for a := range edgy(4, edges...) {
		for b := range edgy(2, edges...) {
			checkTwo(t, a, b)
		}
	}
	for a := range edgy(4, 0, 1, 0x80000000, math.MaxUint32) {
		for b := range edgy(3, 0, 1, 3, 0x80000000, math.MaxUint32) {
			checkTwo(t, a, b)
		}
	}
}

// P2.2: quotients whose guessed limbs are too great.
func TestGuesses(t *testing.T) {
	for _, pair := range [][2][]uint32{
		{{3, 0, 0x80000000}, {1, 0, 0x20000000}},
		{{0, 0, 0x80000000, 0x7fffffff}, {1, 0, 0x80000000}},
		{{0, 0xfffffffe, 0x80000000}, {0xffff, 0x80000000}},
		{{0, 0xfffffffe, 0, 0x80000000}, {0xffffffff, 0, 0x80000000}},
		{{0xffffffff, 0xffffffff, 0xffffffff, 0x7fffffff}, {0xffffffff, 0xffffffff, 0x80000000}},
		{{0, 0, 1}, {0, 3}},
	} {
		checkTwo(t, pair[0], pair[1])
	}
}

// P2.1, P2.2: naturals up to the greatest ones, each with each.
func TestTwoLong(t *testing.T) {
	list := longs()
	for _, a := range list {
		for _, b := range list {
			checkTwo(t, a, b)
		}
	}
	d := dice(7)
	for range 4000 {
		n := int(d.next() % 12)
		checkTwo(t, d.natural(n), d.natural(int(d.next()%12)))
		b := d.natural(1 + int(d.next()%6))
		// A multiple and its neighbours: what is left is 0, or as much as can be.
		product, _ := nat.Mul(d.natural(n), b)
		checkTwo(t, product, b)
		below, e := nat.Sub(product, []uint32{1})
		if e == api.OK {
			checkTwo(t, below, b)
		}
	}
}

// P2.1: ErrLong just where an answer has more than 256 limbs.
func TestLong(t *testing.T) {
	if got, e := nat.Add(full(256), []uint32{1}); e != api.ErrLong || len(got) != 0 {
		t.Errorf("Add: %d limbs, %d", len(got), e)
	}
	if got, e := nat.Add(append([]uint32{math.MaxUint32 - 1}, full(255)...), []uint32{1}); e != api.OK || !slices.Equal(got, full(256)) {
		t.Errorf("Add up to the greatest: %x, %d", got, e)
	}
	if got, e := nat.Add([]uint32{1}, full(256)); e != api.ErrLong || len(got) != 0 {
		t.Errorf("Add to a short one: %d limbs, %d", len(got), e)
	}
	if got, e := nat.Mul(power(32*128), power(32*128)); e != api.ErrLong || len(got) != 0 {
		t.Errorf("Mul of 129 limbs and 129: %d limbs, %d", len(got), e)
	}
	if got, e := nat.Mul(power(32*128), power(32*128-1)); e != api.OK || !slices.Equal(got, power(32*256-1)) {
		t.Errorf("Mul up to 2 to the 8191: %x, %d", got, e)
	}
	if got, e := nat.Mul(full(256), full(256)); e != api.ErrLong || len(got) != 0 {
		t.Errorf("Mul of the greatest: %d limbs, %d", len(got), e)
	}
	if got, e := nat.Mul(full(256), []uint32{1}); e != api.OK || !slices.Equal(got, full(256)) {
		t.Errorf("Mul by 1: %x, %d", got, e)
	}
	if got, e := nat.Mul(full(256), nil); e != api.OK || len(got) != 0 {
		t.Errorf("Mul by 0: %x, %d", got, e)
	}
}

// P2.1: Shl, by each number that a limb's place has, and at the greatest length.
func TestShl(t *testing.T) {
	d := dice(3)
	list := append(longs(), d.natural(5), []uint32{0xffffffff, 0, 0x80000001})
	for _, a := range list {
		edge := 32*api.MaxLimbs - nat.Bits(a)
		for _, k := range []int{0, 1, 2, 15, 16, 30, 31, 32, 33, 63, 64, 65, 100, 2000, edge - 33, edge - 32, edge - 31, edge - 1, edge, edge + 1, edge + 31, edge + 32, edge + 33, 8191, 8192, 8193} {
			if k < 0 {
				continue
			}
			got, e := nat.Shl(a, k)
			want, f := answer(new(big.Int).Lsh(whole(a), uint(k)))
			if e != f || !slices.Equal(got, want) {
				t.Fatalf("Shl(%x, %d): %x, %d instead of %x, %d", a, k, got, e, want, f)
			}
		}
	}
}

// P2.1: Shl by numbers far away: only 0 can be doubled as often as one likes.
func TestShlFar(t *testing.T) {
	for _, k := range []int{8192, 1 << 31, 1 << 32, 1<<32 + 1, 1 << 37, math.MaxInt - 31, math.MaxInt} {
		if got, e := nat.Shl([]uint32{1}, k); e != api.ErrLong || len(got) != 0 {
			t.Errorf("Shl(1, %d): %x, %d", k, got, e)
		}
		if got, e := nat.Shl(nil, k); e != api.OK || len(got) != 0 {
			t.Errorf("Shl(0, %d): %x, %d", k, got, e)
		}
	}
	for _, k := range []int{-1, -32, -1 << 32, math.MinInt, math.MinInt + 1} {
		for _, a := range [][]uint32{nil, {1}, full(256)} {
			if got, e := nat.Shl(a, k); e != api.ErrRange || len(got) != 0 {
				t.Errorf("Shl(%x, %d): %x, %d", a, k, got, e)
			}
		}
	}
}

// P2.1: ErrNumber stands ahead of all other errors, at either list.
func TestNoNaturals(t *testing.T) {
	two := func(a, b []uint32) {
		sum, e1 := nat.Add(a, b)
		left, e2 := nat.Sub(a, b)
		product, e3 := nat.Mul(a, b)
		quotient, rest, e4 := nat.Div(a, b)
		if e1 != api.ErrNumber || e2 != api.ErrNumber || e3 != api.ErrNumber || e4 != api.ErrNumber {
			t.Errorf("%x and %x: %d %d %d %d", a, b, e1, e2, e3, e4)
		}
		if len(sum)+len(left)+len(product)+len(quotient)+len(rest) != 0 {
			t.Errorf("%x and %x: answers beside errors", a, b)
		}
	}
	for _, bad := range noNaturals() {
		for _, other := range append(noNaturals(), nil, []uint32{7}, full(256)) {
			two(bad, other)
			two(other, bad)
			nat.Cmp(bad, other)
			nat.Cmp(other, bad)
		}
		nat.Bits(bad)
		for _, k := range []int{math.MinInt, -1, 0, 1, 8192, math.MaxInt} {
			if got, e := nat.Shl(bad, k); e != api.ErrNumber || len(got) != 0 {
				t.Errorf("Shl(%x, %d): %x, %d", bad, k, got, e)
			}
		}
		if got, e := nat.Text(bad); e != api.ErrNumber || got != "" {
			t.Errorf("Text(%x): %s, %d", bad, got, e)
		}
	}
}

// P2.1: Text and Parse of naturals at the edges, of powers of ten, and of long ones.
func TestTextAndParse(t *testing.T) {
	list := longs()
	for a := range edgy(3, edges...) {
		list = append(list, a)
	}
	for ten, k := big.NewInt(1), 0; k < 60; k++ {
		list = append(list, limbs(ten), limbs(new(big.Int).Sub(ten, big.NewInt(1))), limbs(new(big.Int).Add(ten, big.NewInt(1))))
		ten.Mul(ten, big.NewInt(10))
	}
	for _, a := range list {
		want := whole(a).String()
		if got, e := nat.Text(a); e != api.OK || got != want {
			t.Fatalf("Text(%x): %s, %d instead of %s", a, got, e, want)
		}
		for _, noughts := range []string{"", "0", "00000000", "000000000", strings.Repeat("0", 5000)} {
			if got, e := nat.Parse(noughts + want); e != api.OK || !slices.Equal(got, a) {
				t.Fatalf("Parse(%s%s): %x, %d instead of %x", noughts, want, got, e, a)
			}
		}
	}
}

// P2.1: Parse at the greatest natural, and of texts far longer.
func TestParseLong(t *testing.T) {
	greatest := whole(full(256))
	over := new(big.Int).Add(greatest, big.NewInt(1)).String()
	for _, s := range []string{over, "000" + over, over + "0", over[:len(over)-1] + "9", strings.Repeat("9", len(over)), "1" + strings.Repeat("0", len(over)), strings.Repeat("7", 1<<22)} {
		if got, e := nat.Parse(s); e != api.ErrLong || len(got) != 0 {
			t.Errorf("Parse of %d digits: %d limbs, %d", len(s), len(got), e)
		}
	}
	for _, s := range []string{greatest.String(), strings.Repeat("0", 1<<20) + greatest.String()} {
		if got, e := nat.Parse(s); e != api.OK || !slices.Equal(got, full(256)) {
			t.Errorf("Parse of the greatest: %x, %d", got, e)
		}
	}
	// The highest digit is too great by one power of ten, or just fits.
	ten := "1" + strings.Repeat("0", len(over)-1)
	want, _ := new(big.Int).SetString(ten, 10)
	if got, e := nat.Parse(ten); e != api.OK || !slices.Equal(got, limbs(want)) {
		t.Errorf("Parse of 10 to the %d: %d limbs, %d", len(over)-1, len(got), e)
	}
}

// P2.1: every text that isn't one decimal digit or more, however long it is.
func TestParseWrong(t *testing.T) {
	nines := strings.Repeat("9", 3000)
	list := []string{"", " ", " 1", "1 ", "+1", "-1", "-0", "1.0", "1.", ".1", "1e5", "0x10", "1_000", "x", "a1", "1a", "\x00", "1\x00", "1\n", "\xff", "\xb2", "/", ":", "1/", "1:", "12345678/", "123456789:", "\u0661", "\u00b2", "\uff11", nines + "x", "x" + nines, nines[:1500] + "-" + nines}
	for b := range 0x100 {
		if b < '0' || b > '9' {
			c := string([]byte{byte(b)})
			list = append(list, c, "1"+c, c+"1", "1"+c+"1")
		}
	}
	for _, s := range list {
		if got, e := nat.Parse(s); e != api.ErrNumber || len(got) != 0 {
			t.Errorf("Parse(%q): %x, %d", s, got, e)
		}
	}
	for _, s := range []string{"0", "00", "000000000", "0000000000"} {
		if got, e := nat.Parse(s); e != api.OK || len(got) != 0 {
			t.Errorf("Parse(%q): %x, %d", s, got, e)
		}
	}
}

// roomy: a list with spare room behind it, and what is in all of it.
func roomy(a []uint32) ([]uint32, []uint32) {
	room := append(slices.Clone(a), full(9)...)
	return room[:len(a)], room
}

// scribble writes over a list and its spare room.
func scribble(a []uint32) {
	a = a[:cap(a)]
	for i := range a {
		a[i] = 0xdeadbeef
	}
}

// R3: what is handed in isn't changed, spare room included, and no answer shares its memory.
func TestAnswersAreNew(t *testing.T) {
	list := [][]uint32{{}, {1}, {5}, {0, 0, 1}, {9, 8, 7, 0x80000000}, {3, 0, 0x80000000}, {1, 0, 0x20000000}, full(3), full(128), full(256)}
	for _, first := range list {
		for _, second := range list {
			a, roomA := roomy(first)
			b, roomB := roomy(second)
			sum, _ := nat.Add(a, b)
			less, _ := nat.Sub(a, b)
			product, _ := nat.Mul(a, b)
			quotient, left, _ := nat.Div(a, b)
			shifted, _ := nat.Shl(a, 0)
			shiftedMore, _ := nat.Shl(a, 33)
			nat.Text(a)
			nat.Cmp(a, b)
			kept := slices.Clone(left)
			scribble(quotient)
			if !slices.Equal(left, kept) {
				t.Fatalf("Div(%x, %x): the two lists share memory", first, second)
			}
			for _, answer := range [][]uint32{sum, less, product, left, shifted, shiftedMore} {
				scribble(answer)
			}
			if !slices.Equal(roomA, append(slices.Clone(first), full(9)...)) || !slices.Equal(roomB, append(slices.Clone(second), full(9)...)) {
				t.Fatalf("%x and %x are changed, or shared", first, second)
			}
		}
	}
}

// R3, R8: From and Parse answer new memory each time.
func TestMadeAnew(t *testing.T) {
	for range 2 {
		a, b := nat.From(1<<40), nat.From(0)
		c, _ := nat.Parse("18446744073709551617")
		d, _ := nat.Parse("0")
		if !slices.Equal(a, []uint32{0, 256}) || len(b) != 0 || !slices.Equal(c, []uint32{1, 0, 1}) || len(d) != 0 {
			t.Fatalf("%x %x %x %x", a, b, c, d)
		}
		for _, answer := range [][]uint32{a, b, c, d} {
			scribble(answer)
		}
	}
}
