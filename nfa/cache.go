package nfa

import (
	"strings"

	"thresher/api"
	"thresher/rx"
)

// Cache keeps programs by their texts.
type Cache struct {
	room int
	kept map[key]*Prog
}

// key: what a program was asked for by.
type key struct {
	text string
	way  Way
}

// NewCache: of so many.
func NewCache(room int) (*Cache, api.Errno) {
	if room < 1 {
		return nil, api.ErrRange
	}
	return &Cache{room: room, kept: map[key]*Prog{}}, api.OK
}

// Get: the program of a text.
func (c *Cache) Get(text string, w Way) (*Prog, api.Errno) {
	if c == nil {
		return nil, api.ErrNil
	}
	if p := c.kept[key{text, w}]; p != nil {
		return p, api.OK
	}
	tree, _, errno := rx.Parse(text, w.Bytes)
	if errno != api.OK {
		return nil, errno
	}
	p, errno := Compile(tree, w)
	if errno != api.OK {
		return nil, errno
	}
	if len(c.kept) == c.room {
		// Those that are still asked for are back soon, so it costs little that all go.
		clear(c.kept)
	}
	// A piece of a greater text would keep all of that.
	c.kept[key{strings.Clone(text), w}] = p
	return p, api.OK
}

// Len: how many are kept.
func (c *Cache) Len() int {
	if c == nil {
		return 0
	}
	return len(c.kept)
}
