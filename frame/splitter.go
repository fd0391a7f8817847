package frame

import (
	"isogloss/crc"
	"isogloss/prim"
)

// Splitter is fed with bytes, and tells the payloads of the frames that they are.
type Splitter struct {
	table  crc.Table
	part   []byte   // what has come of a frame that isn't whole
	whole  []string // payloads that wait to be told
	broken bool
}

// New is a splitter of frames whose sums are made with t.
func New(t crc.Table) *Splitter {
	return &Splitter{table: t}
}

// Feed takes bytes that come behind those that came.
func (s *Splitter) Feed(b string) {
	for len(b) > 0 && !s.broken {
		n := min(s.missing(), len(b))
		s.part = append(s.part, b[:n]...)
		b = b[n:]
		if s.missing() == 0 {
			s.judge()
		}
	}
}

// Next is the next payload that is whole; false, if there is none.
func (s *Splitter) Next() (string, bool) {
	if len(s.whole) == 0 {
		return "", false
	}
	payload := s.whole[0]
	// Else the room that is cut off would hold it as long as others wait behind it.
	s.whole[0] = ""
	s.whole = s.whole[1:]
	return payload, true
}

// Broken tells whether a frame that was reached is wrong; payloads ahead of it may wait to be told.
func (s *Splitter) Broken() bool {
	return s.broken
}

// Waiting is how many bytes of a frame that isn't whole have come.
func (s *Splitter) Waiting() int {
	return len(s.part)
}

// missing is how many bytes are to come till the frame can be judged, or till its length is there; 0, if it can be.
func (s *Splitter) missing() int {
	if len(s.part) < lengthSize {
		return lengthSize - len(s.part)
	}
	length := prim.New(string(s.part[:lengthSize])).Fixed(lengthSize, true)
	if !isLength(length) {
		return 0
	}
	return headSize + int(length) - len(s.part)
}

// judge goes on behind a frame of which nothing is missing, or breaks the splitter at one that is wrong.
func (s *Splitter) judge() {
	payload, ok := payloadOf(s.table, string(s.part))
	s.part = nil
	if !ok {
		s.broken = true
		return
	}
	s.whole = append(s.whole, payload)
}

// payloadOf is what a frame holds; false, if its length or its sum is wrong.
func payloadOf(t crc.Table, frame string) (string, bool) {
	c := prim.New(frame)
	length := c.Fixed(lengthSize, true)
	sum := c.Fixed(sumSize, true)
	payload := c.Bytes(c.Left())
	if !isLength(length) || uint32(sum) != crc.Sum(t, payload) {
		return "", false
	}
	return payload, true
}
