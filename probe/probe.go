// Package probe is for the tests of all layers: inputs by chance that are always the same ones, all short inputs, and how answers are held together.
package probe

import (
	"math"

	"thresher/api"
)

// Dice makes words by chance; with the same number to begin with always the same ones.
type Dice uint64

// Next: the next word.
func (d *Dice) Next() uint64 {
	*d = *d*6364136223846793005 + 1442695040888963407
	high := uint64(*d >> 32)
	*d = *d*6364136223846793005 + 1442695040888963407
	return high<<32 | uint64(*d>>32)
}

// Below: a number from 0 on, less than n.
func (d *Dice) Below(n int) int {
	return int(d.Next() >> 40 % uint64(n))
}

// Coin: true or false.
func (d *Dice) Coin() bool {
	return d.Below(2) == 1
}

// Word: a string of at most so many of these bytes.
func (d *Dice) Word(most int, letters string) string {
	b := make([]byte, d.Below(most+1))
	for i := range b {
		b[i] = letters[d.Below(len(letters))]
	}
	return string(b)
}

// Pick: one of a list.
func Pick[T any](d *Dice, list []T) T {
	return list[d.Below(len(list))]
}

// EachWord goes through all strings that begin with s and have at most so many of these pieces behind it.
func EachWord(s string, most int, pieces []string, do func(s string)) {
	do(s)
	if most == 0 {
		return
	}
	for _, p := range pieces {
		EachWord(s+p, most-1, pieces, do)
	}
}

// Same: are two floats the same, to the sign of 0, all NaNs being one?
func Same(x, y float64) bool {
	return math.IsNaN(x) && math.IsNaN(y) || math.Float64bits(x) == math.Float64bits(y)
}

// Floats: those at which counting turns.
func Floats() []float64 {
	list := []float64{math.NaN(), math.Float64frombits(0xfff8000000000001), math.Float64frombits(0x7ff0000000000001)}
	for _, x := range []float64{0, 5e-324, 0x1p-1022, 0.1, 0.25, 1, 1.5, 2, 9, 10, 1e6, 1234567, 1 << 53, 1e16 - 2, 1e16, 1e300, math.MaxFloat64, math.Inf(1)} {
		list = append(list, x, -x)
	}
	return append(list, math.Copysign(0, -1))
}

// Texts: numbers in texts, almost numbers, and others.
func Texts() []string {
	return []string{"", " ", "0", "00", "-0", "+0", "0.0", ".", "-", "+", "e", "e1", "1", " 1", "1 ", "\t1\n", "\v1", "1\r", "10", "9", "1e1", "1E+1", "1e", "1e+", "1.", ".5", "-.5e-1", "1..", "0x10", "0x", "inf", "nan", "+inf", "+nan", "-inf", "1x", "x1", "1 2", "--1", "+-1", "1e999", "-1e999", "1e-999", "-1e-999", "3.0000000000000001", "\x00", "1\x00", "\xff", "1\xff", "abc", "ab", "abd", "B", "\xc3\xa9", "9007199254740993", "1e-5", "0.25", "0.1"}
}

// Patterns: such as numbers are written by, and such as aren't.
func Patterns() []string {
	return []string{"%.6g", "%.3f", "%d", "%5.1e", "a%gb%%", "%X", "", "%s", "%d%d", "%", "%*d", "%.200f", "\xff%i", "%%"}
}

// Orders: the names of all orders.
func Orders() []string {
	list := []string{"@unsorted"}
	for _, by := range []string{"ind_str", "ind_num", "val_str", "val_num", "val_type"} {
		list = append(list, "@"+by+"_asc", "@"+by+"_desc")
	}
	return list
}

// kinds: the four, and others.
func kinds() []api.CellKind {
	return []api.CellKind{api.Uninit, api.Num, api.Str, api.StrNum, 4, 7, -1, math.MaxInt, math.MinInt}
}

// Cells: all kinds, with whatever stands in the fields.
func Cells() []api.Cell {
	var list []api.Cell
	for _, k := range kinds() {
		for _, x := range []float64{0, math.Copysign(0, -1), 1, -2.5, 0.1, 1e300, math.NaN(), math.Inf(1), math.Inf(-1)} {
			for _, s := range []string{"", "0", "1", " 1 ", "1x", "x", "-0", "-2.5", "0.1", "1e300", "\xff"} {
				list = append(list, api.Cell{Kind: k, N: x, S: s})
			}
		}
	}
	return list
}
