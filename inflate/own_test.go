package inflate

import (
	"bytes"
	"slices"
	"strings"
	"testing"

	"inkstand/api"
)

// P6.3, blocks of the kind 2.

// fewOrder is RFC 1951's order of the lengths by which lengths are told.
var fewOrder = [19]int{16, 17, 18, 0, 8, 7, 9, 6, 10, 5, 11, 4, 12, 3, 13, 2, 14, 1, 15}

// allFew is a tree of all 19 symbols, of 4 and 5 bits.
var allFew = append(times(13, 4), times(6, 5)...)

// fewCode is the code of one of these.
func fewCode(few []int, symbol int) string {
	texts, _ := wantTexts(few)
	return texts[symbol]
}

// ownHead is a block's head of the kind 2, with the first k lengths of few, in their order.
func ownHead(last bool, n, m, k int, few []int) string {
	s := head(last, 2) + num(n-257, 5) + num(m-1, 5) + num(k-4, 4)
	for _, symbol := range fewOrder[:k] {
		s += num(few[symbol], 3)
	}
	return s
}

// plainly is lengths, each by its own symbol.
func plainly(few, lengths []int) string {
	s := ""
	for _, n := range lengths {
		s += fewCode(few, n)
	}
	return s
}

// shortly is lengths, with symbols for those that stand again.
func shortly(few, lengths []int) string {
	var s strings.Builder
	for i := 0; i < len(lengths); {
		n, same := lengths[i], 1
		for i+same < len(lengths) && lengths[i+same] == n {
			same++
		}
		switch {
		case n == 0 && same >= 11:
			same = min(same, 138)
			s.WriteString(fewCode(few, 18) + num(same-11, 7))
		case n == 0 && same >= 3:
			s.WriteString(fewCode(few, 17) + num(same-3, 3))
		case i > 0 && lengths[i-1] == n && same >= 3:
			same = min(same, 6)
			s.WriteString(fewCode(few, 16) + num(same-3, 2))
		default:
			same = 1
			s.WriteString(fewCode(few, n))
		}
		i += same
	}
	return s.String()
}

// lengthsOf is lengths of which some are not 0.
func lengthsOf(all int, some map[int]int) []int {
	l := make([]int, all)
	for i, n := range some {
		l[i] = n
	}
	return l
}

// own is a block of the kind 2 up to its trees.
func own(last bool, symbols, distances []int) string {
	return ownHead(last, len(symbols), len(distances), 19, allFew) + shortly(allFew, slices.Concat(symbols, distances))
}

// ownBlock is bytes of q to z, each of 4 bits, of one block.
func ownBlock(last bool, data string) string {
	symbols := make([]int, 257)
	for i := 'q'; i <= 'z'; i++ {
		symbols[i] = 4
	}
	for i := range 5 {
		symbols[i] = 4
	}
	symbols[256] = 4
	texts, _ := wantTexts(symbols)
	s := own(last, symbols, []int{0})
	for i := range len(data) {
		s += texts[data[i]]
	}
	return s + texts[256]
}

func TestRawOwn(t *testing.T) {
	tells(t, pack(ownBlock(true, "")), nil)
	tells(t, pack(ownBlock(true, "xyz")), []byte("xyz"))
	for i := range 8 {
		ahead, came := lead(i)
		tells(t, pack(ahead, ownBlock(true, "qrstuvwxyzzq")), append(came, "qrstuvwxyzzq"...))
	}
	// Codes of 1 to 15 bits, the highest bit first.
	lengths := lengthsOf(259, map[int]int{256: 1, 'a': 2, 'b': 3, 'c': 4, 'd': 5, 'e': 6, 'f': 7, 'g': 8, 'h': 9, 'i': 10, 'j': 11, 'k': 12, 'l': 13, 257: 14, 'm': 15, 258: 15})
	texts, _ := wantTexts(lengths)
	distances := []int{2, 2, 2, 3, 3}
	backs, _ := wantTexts(distances)
	s := own(true, lengths, distances)
	for _, v := range "abcdefghijklm" {
		s += texts[v]
	}
	s += texts[257] + backs[0] + texts[258] + backs[3] + texts[257] + backs[4] + "1"
	tells(t, pack(s, texts[256]), []byte("abcdefghijklm"+"mmm"+"mmmm"+"mmm"))
	// A distance of five codes may tell 5, too.
	tells(t, pack(own(true, lengths, distances), texts['a'], texts['b'], texts['a'], texts['a'], texts['c'], texts[258], backs[4], "0", texts[256]), []byte("abaac"+"abaa"))
}

func TestRawOwnSizes(t *testing.T) {
	for n := 257; n <= 288; n++ {
		for m := 1; m <= 32; m++ {
			symbols, distances := lengthsOf(n, map[int]int{'a': 2, 'b': 2, 256: 2, n - 1: 2}), make([]int, m)
			if n == 257 {
				symbols['c'] = 2
			}
			s := ownHead(true, n, m, 19, allFew)
			if n > 286 || m > 30 {
				faulty(t, s[:3+5+5+4], api.ErrForm)
				faulty(t, s+shortly(allFew, slices.Concat(symbols, distances)), api.ErrForm)
				// All three are taken ahead of that.
				ended(t, s[:16])
				continue
			}
			distances[m-1] = 1
			s = own(true, symbols, distances)
			texts, _ := wantTexts(symbols)
			tells(t, pack(s, texts['b'], texts['a'], texts[256]), []byte("ba"))
		}
	}
	// The last symbols that may be: 285, and a distance of symbol 29.
	symbols := lengthsOf(286, map[int]int{'a': 2, 256: 2, 285: 1})
	distances := lengthsOf(30, map[int]int{29: 1})
	texts, _ := wantTexts(symbols)
	data := some(32768)
	b := pack(stored("", false, 0, data), own(true, symbols, distances), texts[285], "0", num(1<<13-1, 13), texts[256])
	tells(t, b, append(bytes.Clone(data), data[:258]...))
}

// How many lengths of three bits there are, and in which order.
func TestRawOwnFew(t *testing.T) {
	// 256 codes of 8 bits, by 8, 16 and 0 alone: at least 5 of them.
	symbols := append(times(255, 8), 0, 8)
	texts, _ := wantTexts(symbols)
	few := lengthsOf(19, map[int]int{0: 2, 8: 2, 16: 1})
	for k := 5; k <= 19; k++ {
		s := ownHead(true, 257, 1, k, few) + shortly(few, append(slices.Clone(symbols), 0))
		tells(t, pack(s, texts['h'], texts[256]), []byte("h"))
	}
	// Of the least number none tells a length but 0.
	few = lengthsOf(19, map[int]int{0: 2, 16: 2, 17: 2, 18: 2})
	faulty(t, ownHead(true, 257, 1, 4, few)+shortly(few, make([]int, 258)), api.ErrForm)
	// Those behind the k first ones are 0: without its last one a tree is not whole.
	for k := 4; k < 19; k++ {
		few := lengthsOf(19, map[int]int{16: 2, 17: 2, fewOrder[k]: 1})
		faulty(t, ownHead(true, 257, 1, k, few), api.ErrForm)
		whole := ownHead(true, 257, 1, k+1, few)
		ended(t, whole)
		faulty(t, whole+fewCode(few, 16), api.ErrForm)
	}
	// Each of 1 to 15 by its place.
	for length := 1; length <= 15; length++ {
		symbols := oneLong(length)
		few := spreadFew(symbols)
		k := 19
		for few[fewOrder[k-1]] == 0 {
			k--
		}
		texts, _ := wantTexts(symbols)
		s := ownHead(true, 257, 1, k, few) + plainly(few, append(slices.Clone(symbols), 0))
		tells(t, pack(s, texts[256]), nil)
		tells(t, pack(s, texts['a'], texts[256]), []byte("a"))
	}
}

// oneLong is lengths of each number of bits up to so many, and of these two.
func oneLong(longest int) []int {
	l := make([]int, 257)
	for n := 1; n < longest; n++ {
		l[n] = n
	}
	l['a'], l[256] = longest, longest
	return l
}

// spreadFew is a whole tree by which lengths are told, each by its own symbol.
func spreadFew(lengths []int) []int {
	met := map[int]bool{0: true}
	for _, n := range lengths {
		met[n] = true
	}
	var l []int
	for n := range met {
		l = append(l, n)
	}
	slices.Sort(l)
	few := make([]int, 19)
	bits := 1
	for 1<<bits < len(l) {
		bits++
	}
	for i, n := range l {
		few[n] = bits
		// The first ones are shorter, as far as there are fewer than could be.
		if i < 1<<bits-len(l) {
			few[n] = bits - 1
		}
	}
	return few
}

// A length that came again, and so many of 0.

func lastAgain(n int) string { return fewCode(allFew, 16) + num(n-3, 2) }

func someZero(n int) string { return fewCode(allFew, 17) + num(n-3, 3) }

func manyZero(n int) string { return fewCode(allFew, 18) + num(n-11, 7) }

// singly is lengths, each by its own symbol.
func singly(l ...int) string { return plainly(allFew, l) }

func TestRawOwnRuns(t *testing.T) {
	least := ownHead(true, 257, 1, 19, allFew)
	// There is no last one at first; that goes ahead of how many times.
	for _, first := range []string{lastAgain(3), lastAgain(6), fewCode(allFew, 16)} {
		faulty(t, least+first, api.ErrForm)
	}
	// There is one, if it is 0, too.
	for n := 3; n <= 6; n++ {
		tells(t, pack(least, singly(0), lastAgain(n), singly(1), manyZero(138), manyZero(256-2-n-138), singly(1, 0), "0", "1"), []byte{byte(n + 1)})
		tells(t, pack(least, someZero(3), lastAgain(n), singly(1), manyZero(138), manyZero(256-4-n-138), singly(1, 0), "0", "1"), []byte{byte(n + 3)})
		tells(t, pack(least, manyZero(11), lastAgain(n), lastAgain(n), singly(1), manyZero(138), manyZero(256-12-2*n-138), singly(1, 0), "0", "1"), []byte{byte(2*n + 11)})
	}
	for n := 3; n <= 10; n++ {
		tells(t, pack(least, someZero(n), singly(1), manyZero(138), manyZero(256-1-n-138), singly(1, 0), "0", "1"), []byte{byte(n)})
	}
	for n := 11; n <= 138; n++ {
		tells(t, pack(least, manyZero(n), singly(1), singly(make([]int, 255-n)...), singly(1, 0), "0", "1"), []byte{byte(n)})
	}
	// 8 of 3 bits: 0 to 6, and 256.
	for n := 3; n <= 6; n++ {
		s := least + singly(3) + lastAgain(n) + singly(times(6-n, 3)...) + manyZero(138) + manyZero(256-7-138) + singly(3, 0)
		tells(t, pack(s, "110", "001", "111"), []byte{6, 1})
	}
	// They go on from 0s, and 0s go on from them.
	tells(t, pack(least, singly(3), lastAgain(3), someZero(3), lastAgain(4), singly(3, 3, 3), manyZero(138), manyZero(256-14-138), singly(3, 0), "001", "101", "111"), []byte{1, 12})
}

// They go on from the symbols' lengths into those of distances.
func TestRawOwnAcross(t *testing.T) {
	symbols := lengthsOf(259, map[int]int{'a': 1, 256: 2, 257: 3, 258: 3})
	texts, _ := wantTexts(symbols)
	upTo257 := singly(0) + manyZero(96) + singly(1) + manyZero(138) + manyZero(20) + singly(2, 3)
	for n := 3; n <= 6; n++ {
		// 258 is as the one ahead, and so are the first distances.
		distances := append(times(n-1, 3), lacking(n-1)...)
		backs, _ := wantTexts(distances)
		s := ownHead(true, 259, len(distances), 19, allFew) + upTo257 + lastAgain(n) + singly(distances[n-1:]...)
		tells(t, pack(s, texts['a'], texts[257], backs[0], texts[256]), []byte("aaaa"))
		tells(t, pack(s, texts['a'], texts['a'], texts['a'], texts[258], backs[1], texts[256]), []byte("aaaaaaa"))
	}
}

// They end where both end, or ahead of that, and not behind.
func TestRawOwnPast(t *testing.T) {
	upTo256 := singly(0) + manyZero(96) + singly(1) + manyZero(138) + manyZero(20) + singly(1)
	for _, n := range []int{257, 258, 259, 262, 266, 285, 286} {
		for _, m := range []int{1, 2, 3, 4, 7, 10, 11, 12, 29, 30} {
			left := n + m - 257
			s := ownHead(true, n, m, 19, allFew) + upTo256
			for _, x := range []struct {
				s string
				n int
			}{
				{lastAgain(3), 3}, {lastAgain(6), 6}, {someZero(3), 3}, {someZero(10), 10}, {manyZero(11), 11}, {manyZero(58), 58}, {manyZero(59), 59}, {manyZero(138), 138},
			} {
				// At least one of 0 ahead, as what comes again may not be the one of 256.
				if ahead := left - x.n; ahead > 0 {
					tells(t, pack(s, singly(make([]int, ahead)...), x.s, "0", "1"), []byte("a"))
				}
				if ahead := left - x.n + 1; ahead > 0 && ahead < left {
					faulty(t, s+singly(make([]int, ahead)...)+x.s, api.ErrForm)
				}
				if x.n > left {
					faulty(t, s+x.s, api.ErrForm)
				}
				if left > 1 {
					faulty(t, s+singly(make([]int, left-1)...)+x.s, api.ErrForm)
				}
			}
		}
	}
}

// lacking is lengths that make so many of 3 bits a whole tree.
func lacking(n int) []int {
	return [][]int{{1, 2, 3, 3}, {1, 2, 3}, {1, 2}, {1, 3}, {1}, {2, 3}, {2}, {3}, {}}[n]
}

func TestRawOwnTrees(t *testing.T) {
	base := lengthsOf(257, map[int]int{'a': 1, 256: 1})
	// Without the symbol that ends all, though the trees are whole; ahead of trees that are not.
	for _, symbols := range [][]int{lengthsOf(257, map[int]int{'a': 1, 'b': 1}), make([]int, 257), lengthsOf(286, map[int]int{255: 1, 257: 1}), lengthsOf(257, map[int]int{'a': 1}), lengthsOf(258, map[int]int{'a': 2, 257: 1})} {
		for _, distances := range [][]int{{0}, {1}, {1, 1}, {2}, {1, 1, 1}} {
			faulty(t, own(true, symbols, distances), api.ErrForm)
		}
	}
	// Trees of symbols that are not whole, or have too many codes.
	for _, symbols := range [][]int{
		lengthsOf(257, map[int]int{256: 2}), lengthsOf(257, map[int]int{256: 15}), lengthsOf(257, map[int]int{'a': 2, 256: 1}), lengthsOf(257, map[int]int{'a': 1, 256: 2}), lengthsOf(257, map[int]int{'a': 1, 'b': 1, 256: 1}), lengthsOf(257, map[int]int{'a': 1, 'b': 1, 256: 15}), times(257, 8), times(286, 9), times(257, 15), times(257, 1),
	} {
		faulty(t, own(true, symbols, []int{0}), api.ErrForm)
		faulty(t, own(true, symbols, []int{1, 1})+"0000000000000000", api.ErrForm)
	}
	// Such trees of distances, also if no distance comes.
	for _, distances := range [][]int{{2}, {15}, {0, 2}, {1, 2}, {2, 2}, {2, 2, 2}, {1, 1, 1}, {1, 1, 15}, times(30, 5), times(30, 15), times(30, 1), times(17, 4)} {
		faulty(t, own(true, base, distances), api.ErrForm)
		faulty(t, own(true, base, distances)+"1", api.ErrForm)
	}
	// 256 alone.
	alone := lengthsOf(257, map[int]int{256: 1})
	for _, distances := range [][]int{{0}, make([]int, 30), {1}, {0, 1}, {1, 1}} {
		s := own(true, alone, distances)
		tells(t, pack(s, "0"), nil)
		noCode(t, s)
	}
}

// noCode asks that bits of 1, of which a tree has no code, are so as soon as there are 15 of them.
func noCode(t *testing.T, s string) {
	t.Helper()
	for n := 1; n <= 15; n++ {
		for _, more := range []string{"", "1", "1111111", "0000000000"} {
			bits := s + strings.Repeat("1", n) + more
			b := pack(bits)
			if 8*len(b)-len(s) < 15 {
				answers(t, b, nil, 0, api.ErrShort)
			} else {
				answers(t, b, nil, 0, api.ErrForm)
			}
		}
	}
	faulty(t, s+strings.Repeat("1", 15), api.ErrForm)
}

// Distances without a code, and with one.
func TestRawOwnNoCode(t *testing.T) {
	symbols := lengthsOf(258, map[int]int{'a': 1, 256: 2, 257: 2})
	texts, _ := wantTexts(symbols)
	for i := range 8 {
		ahead, came := lead(i)
		for m := 1; m <= 30; m++ {
			s := ahead + own(true, symbols, make([]int, m))
			tells(t, pack(s, texts['a'], texts[256]), append(bytes.Clone(came), 'a'))
			s += texts['a'] + texts[257]
			noCode(t, s)
			faulty(t, s+strings.Repeat("0", 15), api.ErrForm)
			// One alone, of 1 bit.
			s = ahead + own(true, symbols, lengthsOf(m, map[int]int{m - 1: 1})) + strings.Repeat(texts['a'], 5) + texts[257]
			if m <= 5 {
				tells(t, pack(s, "0", num(0, distanceTable[m-1][0]), texts[256]), append(bytes.Clone(came), "aaaaaaaa"...))
			}
			noCode(t, s)
		}
		// Lengths by a tree with none, and with one, that tells but one length.
		none := ahead + ownHead(true, 257, 1, 4, make([]int, 19))
		noCode(t, none)
		faulty(t, none+strings.Repeat("0", 15), api.ErrForm)
		for symbol := range 19 {
			few := lengthsOf(19, map[int]int{symbol: 1})
			s := ahead + ownHead(true, 257, 1, 19, few)
			noCode(t, s)
			faulty(t, s+strings.Repeat("0", 344), api.ErrForm)
		}
	}
}

// Trees by which lengths are told that are not whole, or have too many codes: as soon as they are told.
func TestRawOwnFewWrong(t *testing.T) {
	for _, few := range [][]int{
		lengthsOf(19, map[int]int{8: 2}), lengthsOf(19, map[int]int{18: 7}), lengthsOf(19, map[int]int{0: 1, 8: 2}), lengthsOf(19, map[int]int{0: 1, 8: 1, 9: 1}), lengthsOf(19, map[int]int{16: 1, 17: 1, 15: 7}), times(19, 5), times(19, 4), times(19, 1), times(19, 7), lengthsOf(19, map[int]int{1: 2, 2: 2, 3: 2}),
	} {
		faulty(t, ownHead(true, 257, 1, 19, few), api.ErrForm)
		faulty(t, ownHead(true, 286, 30, 19, few)+strings.Repeat("0", 400), api.ErrForm)
		// They are told, up to the last one, ahead of that.
		s := ownHead(true, 257, 1, 19, few)
		ended(t, s[:len(s)/8*8-8])
	}
}
