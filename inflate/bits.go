package inflate

import "inkstand/api"

// bits are taken from bytes, each byte's lowest one first. Where they end, whatever takes one panics with api.ErrShort.
type bits struct {
	b []byte
	// How many are taken.
	at int
}

// bit takes one.
func (s *bits) bit() int {
	s.want()
	v := s.b[s.at/8] >> (s.at % 8) & 1
	s.at++
	return int(v)
}

// number takes a number of n bits, its lowest one first.
func (s *bits) number(n int) int {
	v := 0
	for i := range n {
		v |= s.bit() << i
	}
	return v
}

// leaveRest leaves out the rest of a byte that was begun.
func (s *bits) leaveRest() { s.at = s.begun() * 8 }

// wholeByte takes a byte, where none is begun.
func (s *bits) wholeByte() byte {
	s.want()
	v := s.b[s.at/8]
	s.at += 8
	return v
}

// want asks for one bit at least.
func (s *bits) want() {
	if s.at/8 == len(s.b) {
		panic(api.ErrShort)
	}
}

// begun is of how many bytes bits were taken.
func (s *bits) begun() int { return (s.at + 7) / 8 }
