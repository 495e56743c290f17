package nfa

import (
	"iter"
	"unicode/utf8"

	"thresher/api"
	"thresher/ustr"
)

// Find: the first of the longest matches, from a place on.
func (p *Prog) Find(s string, from int) (int, int, bool) {
	if p == nil || from < 0 || from > len(s) {
		return 0, 0, false
	}
	return p.search(s, false).find(place(s, from, p.way.Bytes))
}

// All: the matches, one behind the other.
func (p *Prog) All(s string) iter.Seq2[int, int] {
	return func(yield func(int, int) bool) {
		if p == nil {
			return
		}
		r := p.search(s, true)
		for from := 0; from <= len(s); {
			start, end, ok := r.find(from)
			if !ok || !yield(start, end) {
				return
			}
			from = end
			if start == end {
				from = further(s, end, p.way.Bytes)
			}
		}
	}
}

// place: the first place of a string from a byte on.
func place(s string, from int, bytes bool) int {
	if bytes {
		return from
	}
	// A byte that begins an encoding stands within no other one, so the few bytes ahead tell.
	for back := 1; back < utf8.UTFMax && back <= from; back++ {
		if _, size := ustr.Next(s, from-back, false); size > back {
			return from - back + size
		}
	}
	return from
}

// further: the place one character further on; behind the end, if there is none.
func further(s string, at int, bytes bool) int {
	_, size := ustr.Next(s, at, bytes)
	return at + max(size, 1)
}

// path: one of the ways that are gone: at which instruction it stands, and from where a match would be.
type path struct{ number, start int }

// search goes all ways through one string at once.
type search struct {
	p    *Prog
	s    string
	at   int
	now  []path // the ways that ask for the character that is gone over, rising by their starts
	next []path // likewise those that ask for the character behind it

	found      bool
	start, end int

	keep  bool     // more than one match is asked for
	words int      // of a row
	marks []uint64 // a row for each place, if keep: what was reached there
	row   []uint64 // which instructions were reached at the place
}

// search: one that hasn't begun yet.
func (p *Prog) search(s string, keep bool) *search {
	words := (len(p.code) + 63) / 64
	r := &search{p: p, s: s, keep: keep, words: words}
	if !keep {
		r.row = make([]uint64, words)
	}
	return r
}

// find: the first of the longest matches from a place on. The next one is looked for from no place ahead of the end of this one, and isn't an empty one at that end.
func (r *search) find(from int) (int, int, bool) {
	r.found, r.next = false, r.next[:0]
	r.move(from)
characters:
	for {
		if !r.found {
			r.follow(r.p.first, r.at)
		}
		code, size := ustr.Next(r.s, r.at, r.p.way.Bytes)
		if size == 0 || r.found && len(r.next) == 0 {
			break
		}
		c := r.p.char(code)
		r.move(r.at + size)
		r.now, r.next = r.next, r.now[:0]
		for _, w := range r.now {
			if r.found && w.start > r.start {
				// The ways behind this one began later still: a match begins ahead of them.
				continue characters
			}
			if in := &r.p.code[w.number]; in.fits(c) {
				r.follow(in.ways[0], w.start)
			}
		}
	}
	if !r.found {
		return 0, 0, false
	}
	return r.start, r.end, true
}

// move goes to a place.
func (r *search) move(at int) {
	r.at = at
	if !r.keep {
		clear(r.row)
		return
	}
	// What was reached at the end of an earlier match or behind it leads to no place further on at which a match ends, else that one would be longer; and an empty match at its end is none. So the rows are kept, and nothing is gone through twice, however far was looked for each match.
	first := at * r.words
	if missing := first + r.words - len(r.marks); missing > 0 {
		r.marks = append(r.marks, make([]uint64, missing)...)
	}
	r.row = r.marks[first : first+r.words]
}

// follow goes on at an instruction, as far as no character is asked for. A way that comes where one was already began later than that, or with it.
func (r *search) follow(number, start int) {
	word, bit := number/64, uint64(1)<<(number%64)
	if r.row[word]&bit != 0 {
		return
	}
	r.row[word] |= bit
	in := &r.p.code[number]
	switch in.kind {
	case done:
		r.found, r.start, r.end = true, start, r.at
		return
	case api.RxChar, api.RxAny, api.RxSet:
		r.next = append(r.next, path{number, start})
		return
	}
	if in.kind == api.RxAlt || r.holds(in.kind) {
		for _, to := range in.ways {
			r.follow(to, start)
		}
	}
}

// holds: is a condition met at the place?
func (r *search) holds(kind api.RxKind) bool {
	// The characters of words are of ASCII: their bytes stand in no other character.
	ahead := r.at > 0 && wordly(r.s[r.at-1])
	behind := r.at < len(r.s) && wordly(r.s[r.at])
	switch kind {
	case api.RxBegin:
		return r.at == 0
	case api.RxEnd:
		return r.at == len(r.s)
	case api.RxEdge:
		return ahead != behind
	case api.RxIn:
		return ahead == behind
	case api.RxHead:
		return behind && !ahead
	}
	return ahead && !behind
}

// wordly: is it a letter, a digit or `_` of ASCII?
func wordly(c byte) bool {
	return '0' <= c && c <= '9' || 'A' <= c && c <= 'Z' || 'a' <= c && c <= 'z' || c == '_'
}
