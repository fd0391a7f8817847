package wire_test

import (
	"slices"

	"isogloss/api"
	"isogloss/msg"
)

// letter is a frame of the slow net: no bytes, but the message that it is of, and which of its bits are turned.
type letter struct {
	m       msg.Msg
	version int
	bits    int // how many may be turned
	turned  map[int]bool
}

// slow is a net that has letters in place of frames; its sums tell all damage.
type slow struct {
	letters []*letter
}

// put is Put.
func (s *slow) put(m msg.Msg, from, to int) api.Errno {
	version := min(from, to)
	if version < 1 || max(from, to) > 3 {
		return api.ErrArg
	}
	b, e := msg.Encode(version, m)
	if e == api.OK {
		s.letters = append(s.letters, &letter{m, version, 8 * (4 + len(b)), map[int]bool{}})
	}
	return e
}

// at is the i-th letter; nil, if there is none.
func (s *slow) at(i int) *letter {
	for j, l := range s.letters {
		if j == i {
			return l
		}
	}
	return nil
}

// drop is Drop.
func (s *slow) drop(i int) {
	var left []*letter
	for j, l := range s.letters {
		if j != i {
			left = append(left, l)
		}
	}
	s.letters = left
}

// take is Take.
func (s *slow) take(i, version int) (msg.Msg, bool) {
	l := s.at(i)
	s.drop(i)
	if l == nil || len(l.turned) > 0 || version < 1 || version > 3 {
		return msg.Msg{}, false
	}
	p, e := msg.Project(min(version, l.version), l.m)
	return p, e == api.OK
}

// twice is Twice.
func (s *slow) twice(i int) {
	if l := s.at(i); l != nil {
		turned := map[int]bool{}
		for bit := range l.turned {
			turned[bit] = true
		}
		s.letters = append(slices.Clone(s.letters), &letter{l.m, l.version, l.bits, turned})
	}
}

// flip is Flip.
func (s *slow) flip(i, bit int) {
	l := s.at(i)
	if l == nil || bit < 0 {
		return
	}
	bit %= l.bits
	switch {
	case l.turned[bit]:
		delete(l.turned, bit)
	case len(l.turned) == 0:
		l.turned[bit] = true
	}
}
