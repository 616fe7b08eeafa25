package deflate

import (
	"bytes"
	"math"
	"slices"
	"strings"
	"testing"

	"inkstand/api"
)

// P7.3 (and P7.4, of the same bytes: presses asks both)

func TestRaw(t *testing.T) {
	for _, x := range []struct {
		s    string
		kind int
		raw  []byte
	}{
		{"", 0, []byte{1, 0, 0, 255, 255}},
		{"", 1, []byte{3, 0}},
		{"hi", 0, []byte{1, 2, 0, 253, 255, 'h', 'i'}},
		{"a", 1, []byte{75, 4, 0}},
		{"\x00", 1, []byte{99, 0, 0}},
		{"\xff", 1, []byte{251, 15, 0}},
		// "a" is 10010001, 3 bytes are 0000001, 1 back is 00000.
		{"aaaa", 1, pack("1" + "10" + "10010001" + "0000001" + "00000" + "0000000")},
		// 5 bytes are 0000011, 3 back is 00010.
		{"abcabcab", 1, pack("1" + "10" + "10010001" + "10010010" + "10010011" + "0000011" + "00010" + "0000000")},
		// 11 bytes are 0001001 and 0, 7 back is 00101 and 0.
		{"abcdefgabcdefgabcd", 1, pack("1" + "10" + "10010001" + "10010010" + "10010011" + "10010100" + "10010101" + "10010110" + "10010111" + "0001001" + "0" + "00101" + "0" + "0000000")},
	} {
		presses(t, []byte(x.s), x.kind, x.raw, api.OK)
	}
	presses(t, nil, 0, []byte{1, 0, 0, 255, 255}, api.OK)
	presses(t, nil, 1, []byte{3, 0}, api.OK)
}

func TestRawKinds(t *testing.T) {
	for _, kind := range []int{-1, 2, 3, 4, -2, 256, 257, 1 << 32, 1<<32 + 1, math.MaxInt, math.MinInt} {
		presses(t, nil, kind, nil, api.ErrArg)
		presses(t, []byte("a"), kind, nil, api.ErrArg)
		presses(t, some(most), kind, nil, api.ErrArg)
		// Ahead of too many bytes.
		presses(t, make([]byte, most+1), kind, nil, api.ErrArg)
	}
}

func TestRawLarge(t *testing.T) {
	for _, data := range [][]byte{some(most), make([]byte, most)} {
		presses(t, data, 0, wantStored(data), api.OK)
		presses(t, data, 1, wantPressed(Tokens(data)), api.OK)
	}
	for _, n := range []int{most + 1, most + 2, 5 * most} {
		presses(t, make([]byte, n), 0, nil, api.ErrLarge)
		presses(t, make([]byte, n), 1, nil, api.ErrLarge)
	}
}

// Blocks of the kind 0, by their heads.
func TestRawStored(t *testing.T) {
	data := some(most)
	notLast, lastFull := []byte{0, 255, 255, 0, 0}, []byte{1, 255, 255, 0, 0}
	for _, x := range []struct {
		n     int
		heads [][]byte
	}{
		{0, [][]byte{{1, 0, 0, 255, 255}}},
		{1, [][]byte{{1, 1, 0, 254, 255}}},
		{255, [][]byte{{1, 255, 0, 0, 255}}},
		{256, [][]byte{{1, 0, 1, 255, 254}}},
		{65534, [][]byte{{1, 254, 255, 1, 0}}},
		{65535, [][]byte{lastFull}},
		{65536, [][]byte{notLast, {1, 1, 0, 254, 255}}},
		{131069, [][]byte{notLast, {1, 254, 255, 1, 0}}},
		{131070, [][]byte{notLast, lastFull}},
		{131071, [][]byte{notLast, notLast, {1, 1, 0, 254, 255}}},
		{196605, [][]byte{notLast, notLast, lastFull}},
	} {
		var want []byte
		left := data[:x.n]
		for _, head := range x.heads {
			n := int(head[1]) | int(head[2])<<8
			want = slices.Concat(want, head, left[:n])
			left = left[n:]
		}
		if len(left) > 0 || !bytes.Equal(want, wantStored(data[:x.n])) {
			t.Fatal(x.n)
		}
		presses(t, data[:x.n], 0, want, api.OK)
	}
	for _, n := range []int{2, 3, 100, 1000, 70000, 196606, 983025, 983026, most - 1} {
		presses(t, data[:n], 0, wantStored(data[:n]), api.OK)
	}
}

// Each byte, by the code that it has.
func TestRawBytes(t *testing.T) {
	for v := range 256 {
		b := []byte{byte(v)}
		presses(t, b, 1, pack("110"+given(v)+given(256)), api.OK)
		presses(t, []byte{'x', byte(v)}, 1, pack("110"+given('x')+given(v)+given(256)), api.OK)
	}
	all := make([]byte, 256)
	for v := range all {
		all[v] = byte(v)
	}
	presses(t, all, 1, wantPressed(lit(string(all))), api.OK)
}

// Each length, behind one byte and behind others; 258 has a symbol of its own.
func TestRawLengths(t *testing.T) {
	for n := 3; n <= 258; n++ {
		presses(t, bytes.Repeat([]byte("a"), n+1), 1, pack("110"+given('a')+wantLength(n)+"00000"+given(256)), api.OK)
		word := unlike(n)
		b := slices.Concat(word, []byte("."), word, []byte("-"))
		presses(t, b, 1, wantPressed(slices.Concat(lit(string(word)+"."), back(n, n+1), lit("-"))), api.OK)
	}
	// 257 bytes are 11000100 and 11110; 258 are 11000101.
	presses(t, []byte(strings.Repeat("a", 258)), 1, pack("110"+given('a')+"11000100"+"01111"+"00000"+"0000000"), api.OK)
	presses(t, []byte(strings.Repeat("a", 259)), 1, pack("110"+given('a')+"11000101"+"00000"+"0000000"), api.OK)
}

// Each symbol's least and greatest distance, those beside them, and all that are small.
func TestRawDistances(t *testing.T) {
	dists := map[int]bool{window: true}
	for dist := range 600 {
		dists[dist] = true
	}
	for _, x := range distanceTable {
		for _, dist := range []int{x[1] - 1, x[1], x[1] + 1, x[1] + 1<<x[0] - 1} {
			dists[dist] = true
		}
	}
	for dist := range dists {
		if dist < 3 {
			continue
		}
		b := slices.Concat([]byte("#$%"), unlike(dist-3), []byte("#$%"))
		presses(t, b, 1, wantPressed(slices.Concat(lit(string(b[:dist])), back(3, dist))), api.OK)
	}
	presses(t, []byte("aaaa"), 1, wantPressed(slices.Concat(lit("a"), back(3, 1))), api.OK)
	presses(t, []byte("ababa"), 1, wantPressed(slices.Concat(lit("ab"), back(3, 2))), api.OK)
}

// bitsOf is the bits of bytes, as they are taken.
func bitsOf(b []byte) string {
	var s strings.Builder
	for _, v := range b {
		s.WriteString(num(int(v), 8))
	}
	return s.String()
}

// Whichever bits are left behind the last symbol are 0.
func TestRawRest(t *testing.T) {
	left := map[int]bool{}
	for n := range 16 {
		// These have 9 bits each.
		b := []byte("\xf0\xf1\xf2\xf3\xf4\xf5\xf6\xf7\xf8\xf9\xfa\xfb\xfc\xfd\xfe\xff")[:n]
		bits := 3 + 9*n + 7
		left[bits%8] = true
		raw, err := Raw(b, 1)
		if err != api.OK || len(raw) != (bits+7)/8 {
			t.Fatalf("%v: %v %v", b, raw, err)
		}
		if s := bitsOf(raw); strings.Contains(s[bits-7:], "1") {
			t.Errorf("%v: %s", b, s)
		}
	}
	if len(left) != 8 {
		t.Error(left)
	}
}
