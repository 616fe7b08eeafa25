package inflate

import (
	"cmp"
	"slices"
	"strconv"
	"strings"

	"inkstand/api"
)

// P6.2 to P6.4: answers by the document's words, told another way than the program's: codes are texts, and an error is handed up.

// wantTexts is the code of each length as a text, "" of none.
func wantTexts(lengths []int) ([]string, api.Errno) {
	if len(lengths) > 320 || slices.ContainsFunc(lengths, func(n int) bool { return n < 0 || n > 15 }) {
		return nil, api.ErrArg
	}
	var order []int
	for i, n := range lengths {
		if n > 0 {
			order = append(order, i)
		}
	}
	slices.SortStableFunc(order, func(i, j int) int { return cmp.Compare(lengths[i], lengths[j]) })
	// Each code is a part of all texts of 15 bits: those that begin with it.
	texts := make([]string, len(lengths))
	place := 0
	for _, i := range order {
		if place >= 1<<15 {
			return nil, api.ErrForm
		}
		texts[i] = code(place, 15)[:lengths[i]]
		place += 1 << (15 - lengths[i])
	}
	alone := len(order) == 1 && lengths[order[0]] == 1
	if place != 1<<15 && !alone && len(order) > 0 {
		return nil, api.ErrForm
	}
	return texts, api.OK
}

func wantCodes(lengths []int) ([]int, api.Errno) {
	texts, e := wantTexts(lengths)
	if e != api.OK {
		return nil, e
	}
	codes := make([]int, len(texts))
	for i, s := range texts {
		if s != "" {
			n, _ := strconv.ParseInt(s, 2, 0)
			codes[i] = int(n)
		}
	}
	return codes, api.OK
}

// wantTree is each code's symbol; an error is of what stands in blocks.
func wantTree(lengths []int) (map[string]int, api.Errno) {
	texts, e := wantTexts(lengths)
	if e != api.OK {
		return nil, e
	}
	tree := map[string]int{}
	for symbol, s := range texts {
		if s != "" {
			tree[s] = symbol
		}
	}
	return tree, api.OK
}

// line is the bits of bytes, as they are gone over.
type line struct {
	b   []byte
	at  int
	out []byte
}

func (l *line) text(n int) (string, api.Errno) {
	var s strings.Builder
	for range n {
		if l.at >= 8*len(l.b) {
			return "", api.ErrShort
		}
		s.WriteString(num(int(l.b[l.at/8]), 8)[l.at%8 : l.at%8+1])
		l.at++
	}
	return s.String(), api.OK
}

func (l *line) number(n int) (int, api.Errno) {
	s, e := l.text(n)
	v := 0
	for i := range len(s) {
		v += int(s[i]-'0') << i
	}
	return v, e
}

func (l *line) symbol(tree map[string]int) (int, api.Errno) {
	s := ""
	for range 15 {
		one, e := l.text(1)
		if e != api.OK {
			return 0, e
		}
		s += one
		if symbol, ok := tree[s]; ok {
			return symbol, api.OK
		}
	}
	return 0, api.ErrForm
}

func (l *line) put(v byte) api.Errno {
	if len(l.out)+1 > 1048576 {
		return api.ErrLarge
	}
	l.out = append(l.out, v)
	return api.OK
}

func wantRaw(b []byte) ([]byte, int, api.Errno) {
	l := &line{b: b}
	for {
		last, e := l.text(1)
		if e == api.OK {
			e = l.block()
		}
		if e != api.OK {
			return nil, 0, e
		}
		if last == "1" {
			return l.out, (l.at + 7) / 8, api.OK
		}
	}
}

func (l *line) block() api.Errno {
	kind, e := l.number(2)
	switch {
	case e != api.OK:
		return e
	case kind == 0:
		return l.stored()
	case kind == 3:
		return api.ErrForm
	}
	symbols, distances := map[string]int{}, map[string]int{}
	for i := range 288 {
		symbols[given(i)] = i
	}
	for i := range 32 {
		distances[code(i, 5)] = i
	}
	if kind == 2 {
		if symbols, distances, e = l.trees(); e != api.OK {
			return e
		}
	}
	for {
		symbol, e := l.symbol(symbols)
		switch {
		case e != api.OK:
			return e
		case symbol == 256:
			return api.OK
		case symbol < 256:
			e = l.put(byte(symbol))
		default:
			e = l.match(symbol-257, distances)
		}
		if e != api.OK {
			return e
		}
	}
}

func (l *line) stored() api.Errno {
	for l.at%8 != 0 {
		l.at++
	}
	n, e := l.number(16)
	if e != api.OK {
		return e
	}
	turned, e := l.number(16)
	if e != api.OK {
		return e
	}
	if n+turned != 65535 || n&turned != 0 {
		return api.ErrForm
	}
	for range n {
		v, e := l.number(8)
		if e != api.OK {
			return e
		}
		if e = l.put(byte(v)); e != api.OK {
			return e
		}
	}
	return api.OK
}

// match is what comes by a length: i is which one.
func (l *line) match(i int, distances map[string]int) api.Errno {
	if i >= len(lengthTable) {
		return api.ErrForm
	}
	more, e := l.number(lengthTable[i][0])
	if e != api.OK {
		return e
	}
	n := lengthTable[i][1] + more
	i, e = l.symbol(distances)
	if e != api.OK {
		return e
	}
	if i >= len(distanceTable) {
		return api.ErrForm
	}
	more, e = l.number(distanceTable[i][0])
	if e != api.OK {
		return e
	}
	back := distanceTable[i][1] + more
	for range n {
		if back > len(l.out) {
			return api.ErrForm
		}
		if e := l.put(l.out[len(l.out)-back]); e != api.OK {
			return e
		}
	}
	return api.OK
}

func (l *line) trees() (map[string]int, map[string]int, api.Errno) {
	var sizes [3]int
	for i, bits := range []int{5, 5, 4} {
		n, e := l.number(bits)
		if e != api.OK {
			return nil, nil, e
		}
		sizes[i] = n + []int{257, 1, 4}[i]
	}
	n, m, k := sizes[0], sizes[1], sizes[2]
	if n > 286 || m > 30 {
		return nil, nil, api.ErrForm
	}
	few := make([]int, 19)
	for _, symbol := range []int{16, 17, 18, 0, 8, 7, 9, 6, 10, 5, 11, 4, 12, 3, 13, 2, 14, 1, 15}[:k] {
		v, e := l.number(3)
		if e != api.OK {
			return nil, nil, e
		}
		few[symbol] = v
	}
	tree, e := wantTree(few)
	if e != api.OK {
		return nil, nil, e
	}
	lengths, e := l.lengths(tree, n+m)
	if e != api.OK {
		return nil, nil, e
	}
	if lengths[256] == 0 {
		return nil, nil, api.ErrForm
	}
	symbols, e := wantTree(lengths[:n])
	if e != api.OK {
		return nil, nil, e
	}
	distances, e := wantTree(lengths[n:])
	return symbols, distances, e
}

func (l *line) lengths(tree map[string]int, all int) ([]int, api.Errno) {
	var lengths []int
	for len(lengths) < all {
		symbol, e := l.symbol(tree)
		if e != api.OK {
			return nil, e
		}
		v, least, bits := symbol, 1, 0
		switch symbol {
		case 16:
			if lengths == nil {
				return nil, api.ErrForm
			}
			v, least, bits = lengths[len(lengths)-1], 3, 2
		case 17:
			v, least, bits = 0, 3, 3
		case 18:
			v, least, bits = 0, 11, 7
		}
		more, e := l.number(bits)
		if e != api.OK {
			return nil, e
		}
		lengths = append(lengths, slices.Repeat([]int{v}, least+more)...)
	}
	if len(lengths) > all {
		return nil, api.ErrForm
	}
	return lengths, api.OK
}

func wantZlib(b []byte) ([]byte, int, api.Errno) {
	if len(b) < 2 {
		return nil, 0, api.ErrShort
	}
	first, second := int(b[0]), int(b[1])
	if first%16 != 8 || first/16 > 7 || (first*256+second)%31 != 0 || second/32%2 == 1 {
		return nil, 0, api.ErrForm
	}
	out, n, e := wantRaw(b[2:])
	if e != api.OK {
		return nil, 0, e
	}
	if len(b) < 2+n+4 {
		return nil, 0, api.ErrShort
	}
	if string(b[2+n:2+n+4]) != string(sumBytesOf(out)) {
		return nil, 0, api.ErrForm
	}
	return out, 2 + n + 4, api.OK
}
