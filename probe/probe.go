// Package probe is for the tests of all layers: inputs by chance that are always the same ones, all short inputs, and how answers are held together.
package probe

import "math"

// Dice makes words by chance; with the same number to begin with always the same ones.
type Dice uint64

// Next: the next word.
func (d *Dice) Next() uint64 {
	*d = *d*6364136223846793005 + 1442695040888963407
	high := uint64(*d >> 32)
	*d = *d*6364136223846793005 + 1442695040888963407
	return high<<32 | uint64(*d>>32)
}

// Below: a number from 0 on, less than n.
func (d *Dice) Below(n int) int {
	return int(d.Next() >> 40 % uint64(n))
}

// Coin: true or false.
func (d *Dice) Coin() bool {
	return d.Below(2) == 1
}

// Word: a string of at most so many of these bytes.
func (d *Dice) Word(most int, letters string) string {
	b := make([]byte, d.Below(most+1))
	for i := range b {
		b[i] = letters[d.Below(len(letters))]
	}
	return string(b)
}

// Pick: one of a list.
func Pick[T any](d *Dice, list []T) T {
	return list[d.Below(len(list))]
}

// EachWord goes through all strings that begin with s and have at most so many of these pieces behind it.
func EachWord(s string, most int, pieces []string, do func(s string)) {
	do(s)
	if most == 0 {
		return
	}
	for _, p := range pieces {
		EachWord(s+p, most-1, pieces, do)
	}
}

// Same: are two floats the same, to the sign of 0, all NaNs being one?
func Same(x, y float64) bool {
	return math.IsNaN(x) && math.IsNaN(y) || math.Float64bits(x) == math.Float64bits(y)
}
