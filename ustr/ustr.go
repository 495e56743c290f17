// Package ustr is layer 1: strings as characters, or as bytes (shared/doc/01-ustr.md).
package ustr

import (
	"iter"
	"strings"
	"unicode/utf8"
)

// loneByte: the code of a byte that begins no encoding is this and the byte.
const loneByte = 0x110000

// Next: the code of the character that begins at a byte's place, and how many bytes it has.
func Next(s string, at int, bytes bool) (int, int) {
	if at < 0 || at >= len(s) {
		return 0, 0
	}
	if bytes {
		return int(s[at]), 1
	}
	r, size := utf8.DecodeRuneInString(s[at:])
	if r == utf8.RuneError && size == 1 {
		return loneByte + int(s[at]), 1
	}
	return int(r), size
}

// All: the places and codes of the characters, in order.
func All(s string, bytes bool) iter.Seq2[int, int] {
	return func(yield func(int, int) bool) {
		for at := 0; at < len(s); {
			code, size := Next(s, at, bytes)
			if !yield(at, code) {
				return
			}
			at += size
		}
	}
}

// Text: the bytes of a code; none, if the number is no code.
func Text(code int) string {
	switch {
	case code < 0 || code > loneByte+0xff:
		return ""
	case code >= loneByte:
		return string([]byte{byte(code - loneByte)})
	case !utf8.ValidRune(rune(code)):
		return ""
	}
	return string(rune(code))
}

// Len: how many characters.
func Len(s string, bytes bool) int {
	if bytes {
		return len(s)
	}
	return utf8.RuneCountInString(s)
}

// Place: the byte's place at which the character of a number begins; of one number more, the length.
func Place(s string, n int, bytes bool) (int, bool) {
	if n < 1 || n > len(s)+1 {
		return 0, false
	}
	if bytes {
		return n - 1, true
	}
	number := 1
	for at := range All(s, false) {
		if number == n {
			return at, true
		}
		number++
	}
	if number == n {
		return len(s), true
	}
	return 0, false
}

// Sub: the characters whose number is from or more, and below to.
func Sub(s string, from, to int, bytes bool) string {
	if from >= to {
		return ""
	}
	start, end := ahead(s, from, bytes), ahead(s, to, bytes)
	// A piece of s would share its memory: an answer is new memory.
	return strings.Clone(s[start:end])
}

// ahead: how many bytes the characters have whose number is below n.
func ahead(s string, n int, bytes bool) int {
	if n < 1 {
		return 0
	}
	if at, ok := Place(s, n, bytes); ok {
		return at
	}
	return len(s)
}

// Index: the number of the first character at which the bytes of t stand in s; 0, if there is none.
func Index(s, t string, bytes bool) int {
	if t == "" || len(t) > len(s) {
		return 0
	}
	// t may stand at very many places within characters: with its borders each byte of s is still looked at just once.
	list := borders(t)
	fit := 0
	for at := range len(s) {
		fit = extend(t, list, fit, s[at])
		start := at + 1 - len(t)
		if fit == len(t) && begins(s, start, bytes) {
			return Len(s[:start], bytes) + 1
		}
	}
	return 0
}

// begins: does a character of s begin at a place within it?
func begins(s string, at int, bytes bool) bool {
	if bytes {
		return true
	}
	// A byte that begins an encoding stands within no other one, so the few bytes ahead tell.
	for back := 1; back < utf8.UTFMax && back <= at; back++ {
		if _, size := Next(s, at-back, false); size > back {
			return false
		}
	}
	return true
}

// borders: for each length of a beginning of t, how long the longest shorter beginning is with which that one ends.
func borders(t string) []int {
	list := make([]int, len(t)+1)
	for n := 1; n < len(t); n++ {
		list[n+1] = extend(t, list, list[n], t[n])
	}
	return list
}

// extend: how many bytes of t the text ends with when it gets one byte more, if it ended with fit of them; list: the borders of t.
func extend(t string, list []int, fit int, next byte) int {
	for fit > 0 && (fit == len(t) || t[fit] != next) {
		fit = list[fit]
	}
	if t[fit] == next {
		return fit + 1
	}
	return 0
}

// caseStep: how much greater a small letter's code is than its capital's.
const caseStep = 'a' - 'A'

// capital: is it a capital's code?
func capital(code int, bytes bool) bool {
	if 'A' <= code && code <= 'Z' {
		return true
	}
	const times = 0xd7 // the sign stands among the letters
	return !bytes && 0xc0 <= code && code <= 0xde && code != times
}

// Fold: of a capital's code its small letter's, of every other number that number.
func Fold(code int, bytes bool) int {
	if capital(code, bytes) {
		return code + caseStep
	}
	return code
}

// raise: of a small letter's code its capital's, of every other number that number.
func raise(code int, bytes bool) int {
	if capital(code-caseStep, bytes) {
		return code - caseStep
	}
	return code
}

// Lower: small letters in the place of all capitals.
func Lower(s string, bytes bool) string { return recase(s, bytes, Fold) }

// Upper: capitals in the place of all small letters.
func Upper(s string, bytes bool) string { return recase(s, bytes, raise) }

// recase: each character's code changed by a function that keeps how many bytes it has.
func recase(s string, bytes bool, change func(int, bool) int) string {
	out := []byte(s)
	for at, code := range All(s, bytes) {
		if changed := change(code, bytes); changed != code {
			copy(out[at:], Text(changed))
		}
	}
	return string(out)
}
