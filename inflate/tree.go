package inflate

import "inkstand/api"

const (
	// maxBits is how long a code may be.
	maxBits = 15
	// maxLengths is how many lengths a tree may have.
	maxLengths = 320
)

// perLength is a number for each length that a code may have.
type perLength [maxBits + 1]int

// Codes are the codes of lengths.
func Codes(lengths []int) ([]int, api.Errno) {
	if len(lengths) > maxLengths {
		return nil, api.ErrArg
	}
	var count perLength
	for _, n := range lengths {
		if n < 0 || n > maxBits {
			return nil, api.ErrArg
		}
		count[n]++
	}
	next, whole := count.firsts()
	if !whole && !count.mayLack(len(lengths)) {
		return nil, api.ErrForm
	}
	codes := make([]int, len(lengths))
	for i, n := range lengths {
		if n > 0 {
			codes[i] = next[n]
			next[n]++
		}
	}
	return codes, api.OK
}

// firsts is the first code of each length; and do all codes fit, and are all there that could be?
func (count *perLength) firsts() (perLength, bool) {
	var first perLength
	behind := 0
	for n := 1; n <= maxBits; n++ {
		first[n] = 2 * behind
		behind = first[n] + count[n]
	}
	// Where codes of one length don't fit, those of each longer one don't either: the longest one tells it all.
	return first, behind == 1<<maxBits
}

// mayLack: may codes be missing that could be there, of so many lengths?
func (count *perLength) mayLack(all int) bool {
	used := all - count[0]
	return used == 0 || used == 1 && count[1] == 1
}

// tree is symbols by their codes: those of one length, of which the first one has the first code, and each other one that behind the one ahead.
type tree struct {
	first   perLength
	symbols [maxBits + 1][]int
}

// treeOf is the tree of lengths; it panics, if there is none.
func treeOf(lengths []int) *tree {
	codes, err := Codes(lengths)
	if err != api.OK {
		panic(err)
	}
	t := &tree{}
	for symbol, n := range lengths {
		if n == 0 {
			continue
		}
		if len(t.symbols[n]) == 0 {
			t.first[n] = codes[symbol]
		}
		t.symbols[n] = append(t.symbols[n], symbol)
	}
	return t
}

// symbol takes a code, its highest bit first, and is the symbol that has it.
func (s *bits) symbol(t *tree) int {
	code := 0
	for n := 1; n <= maxBits; n++ {
		code = code<<1 | s.bit()
		// None of n bits is below the first code: it would have begun with a code that is shorter.
		if i := code - t.first[n]; i < len(t.symbols[n]) {
			return t.symbols[n][i]
		}
	}
	panic(api.ErrForm)
}
