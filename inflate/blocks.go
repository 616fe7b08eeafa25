package inflate

import (
	"slices"

	"inkstand/api"
)

const (
	// endSymbol ends the symbols of a block.
	endSymbol = 256
	// firstLength is the symbol of the least length, lastLength that of the greatest one.
	firstLength, lastLength = 257, 285
	// lastDistance is the symbol of the greatest distances.
	lastDistance = 29
)

// blocks are bits, and what they told so far. What is wrong in them ends by a panic with its api.Errno.
type blocks struct {
	bits
	out []byte
	// The trees that all blocks of the kind 1 have, once one was met.
	given *trees
}

// trees are those of a block: of bytes and lengths, and of distances.
type trees struct{ symbols, distances *tree }

// block takes a block: was it the last one?
func (l *blocks) block() bool {
	last := l.bit() == 1
	switch l.number(2) {
	case 0:
		l.stored()
	case 1:
		l.pressed(l.givenTrees())
	case 2:
		l.pressed(l.ownTrees())
	default:
		panic(api.ErrForm)
	}
	return last
}

// stored takes bytes that stand as they are.
func (l *blocks) stored() {
	l.leaveRest()
	n := l.number(16)
	if l.number(16) != n^0xffff {
		panic(api.ErrForm)
	}
	for range n {
		l.put(l.wholeByte())
	}
}

// pressed takes symbols, up to the one that ends them.
func (l *blocks) pressed(t trees) {
	for {
		symbol := l.symbol(t.symbols)
		switch {
		case symbol < endSymbol:
			l.put(byte(symbol))
		case symbol == endSymbol:
			return
		case symbol > lastLength:
			panic(api.ErrForm)
		default:
			n := l.length(symbol)
			l.again(n, l.distance(t.distances))
		}
	}
}

// length takes what is left of the length of a symbol.
func (l *blocks) length(symbol int) int {
	if symbol == lastLength {
		return 258
	}
	return 3 + l.spanned(symbol-firstLength, 4)
}

// distance takes a distance.
func (l *blocks) distance(t *tree) int {
	symbol := l.symbol(t)
	if symbol > lastDistance {
		panic(api.ErrForm)
	}
	return 1 + l.spanned(symbol, 2)
}

// spanned takes what is left of a number of a span. The first spans, twice as many as each, are of one number alone; of those behind, as many as each are of one width, twice that of those ahead.
func (l *blocks) spanned(span, each int) int {
	if span < 2*each {
		return span
	}
	n := span/each - 1
	return (each+span%each)<<n + l.number(n)
}

// again puts n bytes, each as the one so far back.
func (l *blocks) again(n, back int) {
	if back > len(l.out) {
		panic(api.ErrForm)
	}
	for range n {
		l.put(l.out[len(l.out)-back])
	}
}

// put puts a byte behind all that came.
func (l *blocks) put(v byte) {
	if len(l.out) == api.MaxData {
		panic(api.ErrLarge)
	}
	l.out = append(l.out, v)
}

// givenTrees are those of the kind 1.
func (l *blocks) givenTrees() trees {
	if l.given == nil {
		lengths := slices.Concat(slices.Repeat([]int{8}, 144), slices.Repeat([]int{9}, 112), slices.Repeat([]int{7}, 24), slices.Repeat([]int{8}, 8))
		l.given = &trees{treeOf(lengths), treeOf(slices.Repeat([]int{5}, 32))}
	}
	return *l.given
}

// lengthsOrder is in which order the lengths of the tree stand by which a block's own trees are told.
var lengthsOrder = [19]int{16, 17, 18, 0, 8, 7, 9, 6, 10, 5, 11, 4, 12, 3, 13, 2, 14, 1, 15}

// ownTrees takes those of a block of the kind 2.
func (l *blocks) ownTrees() trees {
	n := l.number(5) + 257
	m := l.number(5) + 1
	k := l.number(4) + 4
	if n > 286 || m > 30 {
		panic(api.ErrForm)
	}
	short := make([]int, len(lengthsOrder))
	for i := range k {
		short[lengthsOrder[i]] = l.number(3)
	}
	lengths := l.lengths(treeOf(short), n+m)
	if lengths[endSymbol] == 0 {
		panic(api.ErrForm)
	}
	return trees{treeOf(lengths[:n]), treeOf(lengths[n:])}
}

// lengths takes so many lengths.
func (l *blocks) lengths(t *tree, all int) []int {
	lengths := make([]int, 0, all)
	for len(lengths) < all {
		n, times := l.run(l.symbol(t), lengths)
		if times > all-len(lengths) {
			panic(api.ErrForm)
		}
		for range times {
			lengths = append(lengths, n)
		}
	}
	return lengths
}

// run takes what is left of a symbol: a length, and how many times it stands behind those that came.
func (l *blocks) run(symbol int, came []int) (int, int) {
	switch symbol {
	case 16:
		if len(came) == 0 {
			panic(api.ErrForm)
		}
		return came[len(came)-1], 3 + l.number(2)
	case 17:
		return 0, 3 + l.number(3)
	case 18:
		return 0, 11 + l.number(7)
	}
	return symbol, 1
}
