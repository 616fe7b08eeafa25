package deflate

import (
	"math/bits"
	"slices"

	"inkstand/inflate"
)

// maxStored is how many bytes a block may have that stand as they are.
const maxStored = 65535

// The first bit of a block: is it the last one?
const notLast, last = 0, 1

// stored is bytes as blocks in which they stand as they are.
func stored(b []byte) []byte {
	var out []byte
	for len(b) > maxStored {
		out = appendStored(out, b[:maxStored], notLast)
		b = b[maxStored:]
	}
	return appendStored(out, b, last)
}

// appendStored puts a block behind out. Its first bit, its kind and the bits between, which are all 0, are one byte.
func appendStored(out, b []byte, first byte) []byte {
	n := len(b)
	out = append(out, first, byte(n), byte(n>>8), byte(^n), byte(^n>>8))
	return append(out, b...)
}

const (
	// endSymbol ends the symbols of a block.
	endSymbol = 256
	// firstLength is the symbol of the least length, lastLength that of the greatest one.
	firstLength, lastLength = 257, 285
	// distanceBits is how long the code of each distance is: it is the symbol itself.
	distanceBits = 5
)

// symbols are bits, and the codes that symbols go into them by.
type symbols struct {
	bitsOut
	lengths, codes []int
}

// pressed is tokens as one block.
func pressed(l []Token) []byte {
	lengths := slices.Concat(slices.Repeat([]int{8}, 144), slices.Repeat([]int{9}, 112), slices.Repeat([]int{7}, 24), slices.Repeat([]int{8}, 8))
	// These lengths have codes.
	codes, _ := inflate.Codes(lengths)
	s := symbols{lengths: lengths, codes: codes}
	s.number(last, 1)
	s.number(pressedKind, 2)
	for _, t := range l {
		s.token(t)
	}
	s.symbol(endSymbol)
	return s.b
}

// token puts a byte, or a length and a distance.
func (s *symbols) token(t Token) {
	if t.Len == 0 {
		s.symbol(int(t.Lit))
		return
	}
	s.length(t.Len)
	s.distance(t.Dist)
}

// symbol puts the code of a byte, of a length, or of the end.
func (s *symbols) symbol(v int) { s.code(s.codes[v], s.lengths[v]) }

// length puts a length. The greatest one has a symbol of its own, though a span has place for it.
func (s *symbols) length(n int) {
	if n == maxLen {
		s.symbol(lastLength)
		return
	}
	span, width := spanOf(n-minLen, 4)
	s.symbol(firstLength + span)
	s.number(n-minLen, width)
}

// distance puts a distance.
func (s *symbols) distance(n int) {
	span, width := spanOf(n-1, 2)
	s.code(span, distanceBits)
	s.number(n-1, width)
}

// spanOf is in which span a number is, and how many of its lowest bits tell which one of it. The first spans, twice as many as each, are of one number alone; of those behind, as many as each are twice as wide as those ahead.
func spanOf(n, each int) (span, width int) {
	width = max(0, bits.Len(uint(n/each))-1)
	return width*each + n>>width, width
}
