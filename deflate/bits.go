package deflate

// bitsOut are bits put into bytes, into each byte's lowest one first.
type bitsOut struct {
	b []byte
	// How many are put.
	at int
}

// bit puts the lowest bit of v.
func (s *bitsOut) bit(v int) {
	if s.at%8 == 0 {
		s.b = append(s.b, 0)
	}
	s.b[s.at/8] |= byte(v&1) << (s.at % 8)
	s.at++
}

// number puts the n lowest bits of a number, the lowest one first.
func (s *bitsOut) number(v, n int) {
	for i := range n {
		s.bit(v >> i)
	}
}

// code puts a code of n bits, its highest one first.
func (s *bitsOut) code(v, n int) {
	for i := range n {
		s.bit(v >> (n - 1 - i))
	}
}
