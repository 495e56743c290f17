package dice_test

import (
	"math"
	"math/big"
	"testing"

	"thresher/api"
	"thresher/dice"
	"thresher/probe"
)

const (
	top    = 1<<53 - 1
	states = 1 << 48
)

// word is a call on two numbers' bits.
type word struct {
	name string
	call func(x, y float64) (float64, api.Errno)
	// digit: the digit of the answer at a place, if the second number is no count of places.
	digit func(a, b bool) bool
	// up: how far the digits move up for each place counted by the second number.
	up int
}

func words() []word {
	return []word{
		{"And", dice.And, func(a, b bool) bool { return a && b }, 0},
		{"Or", dice.Or, func(a, b bool) bool { return a || b }, 0},
		{"Xor", dice.Xor, func(a, b bool) bool { return a != b }, 0},
		{"Not", func(x, y float64) (float64, api.Errno) { return dice.Not(x) }, func(a, b bool) bool { return !a }, 0},
		{"Left", dice.Left, nil, 1},
		{"Right", dice.Right, nil, -1},
	}
}

// places: which of the 53 binary digits of a number are 1, by halving it.
func places(x float64) []bool {
	list := make([]bool, 53)
	for i := range list {
		list[i] = math.Mod(x, 2) == 1
		x = math.Floor(x / 2)
	}
	return list
}

// told: what a call answers, digit by digit.
func told(w word, x, y float64) float64 {
	a, b := places(x), places(y)
	sum := 0.0
	for i := range a {
		digit := false
		if w.digit != nil {
			digit = w.digit(a[i], b[i])
		} else if from := i - w.up*int(y); from >= 0 && from < len(a) {
			digit = a[from]
		}
		if digit {
			sum += math.Ldexp(1, i)
		}
	}
	return sum
}

// good: is it a whole number from 0 to the greatest?
func good(x, greatest float64) bool {
	return x >= 0 && x <= greatest && math.Trunc(x) == x
}

func checkWord(t *testing.T, w word, x, y float64) {
	t.Helper()
	greatest := float64(top)
	if w.up != 0 {
		greatest = 52
	}
	want, errno := 0.0, api.ErrRange
	if good(x, top) && (w.name == "Not" || good(y, greatest)) {
		want, errno = told(w, x, y), api.OK
	}
	if z, e := w.call(x, y); !probe.Same(z, want) || e != errno {
		t.Fatalf("%s(%v, %v): %v and %d instead of %v and %d", w.name, x, y, z, e, want, errno)
	}
}

// model is a dice told once more, with naturals of any length.
type model struct{ state *big.Int }

func sown(seed float64) *model {
	b := new(big.Int)
	if seed == seed {
		b.SetUint64(math.Float64bits(seed))
	}
	other := new(big.Int).Div(b, big.NewInt(65536))
	b.Xor(b, other)
	return &model{b.Mod(b, big.NewInt(states))}
}

func (m *model) next() float64 {
	m.state.Mul(m.state, big.NewInt(25214903917))
	m.state.Add(m.state, big.NewInt(11))
	m.state.Mod(m.state, big.NewInt(states))
	x, _ := new(big.Rat).SetFrac(m.state, big.NewInt(states)).Float64()
	return x
}

// seeds: those of each kind, and such as differ in one bit.
func seeds() []float64 {
	list := probe.Floats()
	for i := range 64 {
		list = append(list, math.Float64frombits(1<<i), math.Float64frombits(math.Float64bits(1)^1<<i))
	}
	d := probe.Dice(14)
	for range 300 {
		list = append(list, math.Float64frombits(d.Next()), float64(d.Below(1<<20)))
	}
	return list
}

// edges: numbers that are good, such as almost are, and others.
func edges() []float64 {
	list := append(probe.Floats(), 3, 10, 12, 48, 51, 52, 52.5, 53, 54, 63, 64, 65, 255, 256, 1<<32-1, 1<<32, 1<<52, 1<<52+1, 1<<52+0.5, 1<<51+0.5, top-1, top, top+1, top+3, 1<<63, 1<<64, -52)
	for i := range 64 {
		list = append(list, math.Ldexp(1, i), math.Ldexp(1, i)-1)
	}
	return list
}

// number: a good one by chance, with few digits or many.
func number(d *probe.Dice) float64 {
	x := d.Next() >> (11 + d.Below(53))
	if d.Coin() {
		x = top ^ x
	}
	return float64(x)
}

// P14.1: the examples.
func TestExamples(t *testing.T) {
	d := dice.New(0)
	for i, want := range []float64{11, 277363943098} {
		if x := d.Next(); x != want/states {
			t.Errorf("Next %d of New(0): %v", i, x)
		}
	}
	for _, c := range []struct {
		got    func() (float64, api.Errno)
		want   float64
		errno  api.Errno
		wanted string
	}{
		{func() (float64, api.Errno) { return dice.Xor(12, 10) }, 6, api.OK, "Xor(12, 10)"},
		{func() (float64, api.Errno) { return dice.Left(3, 4) }, 48, api.OK, "Left(3, 4)"},
		{func() (float64, api.Errno) { return dice.And(-1, 1) }, 0, api.ErrRange, "And(-1, 1)"},
		{func() (float64, api.Errno) { return dice.Not(0) }, 9007199254740991, api.OK, "Not(0)"},
	} {
		if x, e := c.got(); x != c.want || e != c.errno {
			t.Errorf("%s: %v and %d", c.wanted, x, e)
		}
	}
}

// P14.1: a seed gives a state, each state the next one; numbers are from 0 on and below 1.
func TestNext(t *testing.T) {
	for _, seed := range seeds() {
		d, m := dice.New(seed), sown(seed)
		for i := range 40 {
			x, want := d.Next(), m.next()
			if x != want || x < 0 || x >= 1 {
				t.Fatalf("Next %d of New(%v): %v instead of %v", i, seed, x, want)
			}
			if !probe.Same(d.Seed(), seed) {
				t.Fatalf("Seed of New(%v): %v", seed, d.Seed())
			}
		}
	}
}

// P14.1: the first number of some seeds, reckoned by hand from their bits.
func TestFirstStates(t *testing.T) {
	for _, c := range []struct {
		seed  float64
		state uint64
	}{
		{0, 0},
		{math.NaN(), 0},
		{math.Copysign(0, -1), 0x800000000000},
		{math.Float64frombits(1), 1},
		{math.Float64frombits(1 << 16), 0x10001},
		{math.Float64frombits(1 << 48), 1 << 32},
		{1, 0x3ff000000000},
		{-1.5, 0xbff800000000},
		{math.Inf(1), 0x7ff000000000},
		{math.MaxFloat64, 0xffffffffffff ^ 0x7fefffffffff},
	} {
		next := (c.state*25214903917 + 11) & (states - 1)
		if x := dice.New(c.seed).Next(); x != float64(next)/states {
			t.Errorf("New(%v): %v instead of %v", c.seed, x, float64(next)/states)
		}
	}
}

// P14.1: a new seed begins anew, at whatever place, with the same seed too.
func TestReseed(t *testing.T) {
	chance := probe.Dice(15)
	list := seeds()
	d := dice.New(7)
	for range 2000 {
		seed := probe.Pick(&chance, list)
		d.Reseed(seed)
		if !probe.Same(d.Seed(), seed) {
			t.Fatalf("Seed after Reseed(%v): %v", seed, d.Seed())
		}
		m := sown(seed)
		for range chance.Below(6) {
			if x, want := d.Next(), m.next(); x != want {
				t.Fatalf("Next after Reseed(%v): %v instead of %v", seed, x, want)
			}
		}
	}
}

// P14.1: NaNs are one seed, 0 and -0 two; which seed was the last is told, whatever was done since.
func TestSeeds(t *testing.T) {
	want := dice.New(math.NaN()).Next()
	for _, bits := range []uint64{0x7ff8000000000000, 0x7ff8000000000001, 0xfff8000000000000, 0x7ff0000000000001, 0xffffffffffffffff, 0x7ff8123456789abc} {
		if x := dice.New(math.Float64frombits(bits)).Next(); x != want {
			t.Errorf("the NaN %x: %v instead of %v", bits, x, want)
		}
	}
	plus, minus := dice.New(0), dice.New(math.Copysign(0, -1))
	if plus.Next() == minus.Next() {
		t.Error("0 and -0 give the same")
	}
	if math.Signbit(plus.Seed()) || !math.Signbit(minus.Seed()) {
		t.Error("the sign of the seed is lost")
	}
}

// P14.1: a dice that is nil.
func TestNil(t *testing.T) {
	var d *dice.Dice
	for _, seed := range edges() {
		d.Reseed(seed)
		if x := d.Next(); !probe.Same(x, 0) {
			t.Fatalf("Next of nil: %v", x)
		}
		if x := d.Seed(); !probe.Same(x, 0) {
			t.Fatalf("Seed of nil: %v", x)
		}
	}
}

// P14.1 (R4): the calls on bits, at their edges, beyond them, and at numbers that aren't whole.
func TestEdges(t *testing.T) {
	for _, w := range words() {
		for _, x := range edges() {
			for _, y := range edges() {
				checkWord(t, w, x, y)
			}
		}
	}
}

// P14.1: all short numbers, and numbers by chance.
func TestNumbers(t *testing.T) {
	for _, w := range words() {
		for x := range 70 {
			for y := range 70 {
				checkWord(t, w, float64(x), float64(y))
			}
		}
		d := probe.Dice(16)
		for range 5000 {
			checkWord(t, w, number(&d), number(&d))
			checkWord(t, w, number(&d), float64(d.Below(56)))
			checkWord(t, w, math.Float64frombits(d.Next()), number(&d))
			checkWord(t, w, number(&d), math.Float64frombits(d.Next()))
			checkWord(t, w, number(&d)/2, number(&d)/2)
		}
	}
}

// P14.2: two dice of one seed answer the same, however they take turns, and whatever others do.
func TestTwoDice(t *testing.T) {
	chance := probe.Dice(17)
	for _, seed := range seeds() {
		a, b, other := dice.New(seed), dice.New(3), dice.New(seed)
		b.Next()
		b.Reseed(seed)
		var xs, ys []float64
		for len(xs) < 30 || len(ys) < 30 {
			switch chance.Below(3) {
			case 0:
				xs = append(xs, a.Next())
			case 1:
				ys = append(ys, b.Next())
			default:
				other.Reseed(other.Next())
			}
		}
		for i := range min(len(xs), len(ys)) {
			if xs[i] != ys[i] {
				t.Fatalf("number %d of the seed %v: %v and %v", i, seed, xs[i], ys[i])
			}
		}
	}
}

// P14.3: sums of what And, Or and Xor answer; Not of Not.
func TestSums(t *testing.T) {
	d := probe.Dice(18)
	for range 20000 {
		x, y := number(&d), number(&d)
		and, e1 := dice.And(x, y)
		or, e2 := dice.Or(x, y)
		xor, e3 := dice.Xor(x, y)
		if e1 != api.OK || e2 != api.OK || e3 != api.OK {
			t.Fatalf("%v and %v: %d, %d and %d", x, y, e1, e2, e3)
		}
		if and+xor != or {
			t.Fatalf("%v and %v: And %v and Xor %v are not Or %v", x, y, and, xor, or)
		}
		// Floats can't tell sums above 2^53 one by one.
		if uint64(and)+uint64(or) != uint64(x)+uint64(y) {
			t.Fatalf("%v and %v: And %v and Or %v are not the sum", x, y, and, or)
		}
		not, e1 := dice.Not(x)
		back, e2 := dice.Not(not)
		if e1 != api.OK || e2 != api.OK || back != x || not+x != top {
			t.Fatalf("Not of %v: %v, and of that %v", x, not, back)
		}
	}
}

// R8: the calls on bits answer the same each time; a dice is new memory.
func TestAgain(t *testing.T) {
	a, b := dice.New(1), dice.New(1)
	if a == nil || a == b {
		t.Fatal("two dice are one")
	}
	d := probe.Dice(19)
	for range 1000 {
		x, y := number(&d), float64(d.Below(60))
		for _, w := range words() {
			z, e := w.call(x, y)
			a.Next()
			if again, f := w.call(x, y); !probe.Same(z, again) || e != f {
				t.Fatalf("%s(%v, %v): %v and %d, then %v and %d", w.name, x, y, z, e, again, f)
			}
		}
	}
}
