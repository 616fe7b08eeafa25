package inflate

import (
	"bytes"
	"encoding/binary"
	"fmt"
	"hash/adler32"
	"math/rand"
	"strings"
	"testing"

	"inkstand/api"
)

// Bits as the tests lay them: texts of 0 and 1, in the order in which they are taken.

// num is a number of n bits, its lowest one first.
func num(v, n int) string {
	s := ""
	for i := range n {
		s += string(rune('0' + v>>i&1))
	}
	return s
}

// code is a number of n bits, its highest one first.
func code(v, n int) string {
	if n == 0 {
		return ""
	}
	return fmt.Sprintf("%0*b", n, v)
}

// pack is bytes of bits; what is left of the last one is 0.
func pack(l ...string) []byte {
	s := strings.Join(l, "")
	b := make([]byte, (len(s)+7)/8)
	for i := range s {
		b[i/8] |= (s[i] - '0') << (i % 8)
	}
	return b
}

// spread is the bits of bytes.
func spread(b []byte) string {
	var all [256]string
	for v := range all {
		all[v] = num(v, 8)
	}
	var s strings.Builder
	for _, v := range b {
		s.WriteString(all[v])
	}
	return s.String()
}

// head is the three bits ahead of each block.
func head(last bool, kind int) string {
	if last {
		return "1" + num(kind, 2)
	}
	return "0" + num(kind, 2)
}

// stored is a block of the kind 0 behind bits that are laid already; of the byte that these have begun the rest is rest.
func stored(ahead string, last bool, rest byte, data []byte) string {
	s := ahead + head(last, 0)
	for len(s)%8 != 0 {
		s += string('0' + rune(rest))
	}
	return s + num(len(data), 16) + num(len(data)^0xffff, 16) + spread(data)
}

// given is the code of a symbol of the kind 1, as RFC 1951, 3.2.6 tells them.
func given(symbol int) string {
	switch {
	case symbol < 144:
		return code(0b00110000+symbol, 8)
	case symbol < 256:
		return code(0b110010000+symbol-144, 9)
	case symbol < 280:
		return code(symbol-256, 7)
	}
	return code(0b11000000+symbol-280, 8)
}

// givens is the codes of bytes.
func givens(data string) string {
	s := ""
	for i := range len(data) {
		s += given(int(data[i]))
	}
	return s
}

// The tables of RFC 1951, 3.2.5: of each symbol how many bits more, and the least number.
var (
	lengthTable   = [29][2]int{{0, 3}, {0, 4}, {0, 5}, {0, 6}, {0, 7}, {0, 8}, {0, 9}, {0, 10}, {1, 11}, {1, 13}, {1, 15}, {1, 17}, {2, 19}, {2, 23}, {2, 27}, {2, 31}, {3, 35}, {3, 43}, {3, 51}, {3, 59}, {4, 67}, {4, 83}, {4, 99}, {4, 115}, {5, 131}, {5, 163}, {5, 195}, {5, 227}, {0, 258}}
	distanceTable = [30][2]int{{0, 1}, {0, 2}, {0, 3}, {0, 4}, {1, 5}, {1, 7}, {2, 9}, {2, 13}, {3, 17}, {3, 25}, {4, 33}, {4, 49}, {5, 65}, {5, 97}, {6, 129}, {6, 193}, {7, 257}, {7, 385}, {8, 513}, {8, 769}, {9, 1025}, {9, 1537}, {10, 2049}, {10, 3073}, {11, 4097}, {11, 6145}, {12, 8193}, {12, 12289}, {13, 16385}, {13, 24577}}
)

// givenLength is a length of the kind 1, by the last symbol that may tell it.
func givenLength(n int) string {
	for i := len(lengthTable) - 1; ; i-- {
		if more, least := lengthTable[i][0], lengthTable[i][1]; least <= n {
			return given(257+i) + num(n-least, more)
		}
	}
}

// givenDistance is a distance of the kind 1.
func givenDistance(n int) string {
	for i := len(distanceTable) - 1; ; i-- {
		if more, least := distanceTable[i][0], distanceTable[i][1]; least <= n {
			return code(i, 5) + num(n-least, more)
		}
	}
}

// match is bytes of the kind 1 that are so far back.
func match(n, back int) string { return givenLength(n) + givenDistance(back) }

const end = "0000000"

// fixed is a block of the kind 1.
func fixed(last bool, symbols ...string) string {
	return head(last, 1) + strings.Join(symbols, "") + end
}

// lead is blocks ahead of the last one, which end i bits behind a byte's beginning, and what they tell.
func lead(i int) (string, []byte) {
	two, three := fixed(false), fixed(false, given(200))
	at := [8][2]int{{0, 0}, {0, 3}, {1, 0}, {0, 1}, {2, 0}, {1, 1}, {3, 0}, {2, 1}}[i]
	return strings.Repeat(two, at[0]) + strings.Repeat(three, at[1]), bytes.Repeat([]byte{200}, at[1])
}

// some is so many bytes that don't repeat soon; the same ones each time.
func some(n int) []byte {
	b := make([]byte, n)
	rand.New(rand.NewSource(1)).Read(b)
	return b
}

// short is bytes as Go tells them, cut where they are many.
func short(b []byte) string {
	if len(b) > 40 {
		return fmt.Sprintf("%d bytes: %v ..", len(b), b[:40])
	}
	return fmt.Sprint(b)
}

// zlibbed is bytes of blocks with a head and the sum of what they tell.
func zlibbed(raw, told []byte) []byte {
	return append(append([]byte{120, 156}, raw...), sumBytesOf(told)...)
}

// asked asks what a call answers, that it changed nothing, and that the answer is new memory.
func asked(t *testing.T, name string, call func(b []byte) ([]byte, int, api.Errno), b, want []byte, n int, e api.Errno) {
	t.Helper()
	handed := bytes.Clone(b)
	out, begun, err := call(handed)
	if !bytes.Equal(handed, b) {
		t.Errorf("%s(%s) changed them", name, short(b))
	}
	clear(handed)
	if !bytes.Equal(out, want) || begun != n || err != e || e != api.OK && out != nil {
		t.Errorf("%s(%s): %s %d %v, not %s %d %v", name, short(b), short(out), begun, err, short(want), n, e)
	}
}

// answers asks it of Raw.
func answers(t *testing.T, b, want []byte, n int, e api.Errno) {
	t.Helper()
	asked(t, "Raw", Raw, b, want, n, e)
}

// zlibAnswers asks it of Zlib.
func zlibAnswers(t *testing.T, b, want []byte, n int, e api.Errno) {
	t.Helper()
	asked(t, "Zlib", Zlib, b, want, n, e)
}

// tells asks that all of b are blocks that tell want; that they do so too, whatever stands behind; and that each part of them that lacks some at the end is too short.
func tells(t *testing.T, b, want []byte) {
	t.Helper()
	answers(t, b, want, len(b), api.OK)
	zlibAnswers(t, zlibbed(b, want), want, len(b)+6, api.OK)
	for _, behind := range behinds {
		answers(t, append(bytes.Clone(b), behind...), want, len(b), api.OK)
		zlibAnswers(t, append(zlibbed(b, want), behind...), want, len(b)+6, api.OK)
	}
	for _, n := range places(len(b)) {
		answers(t, b[:n], nil, 0, api.ErrShort)
		zlibAnswers(t, zlibbed(b, want)[:n+6], nil, 0, api.ErrShort)
	}
}

// behinds is what may stand behind: some of it goes on as bits that are left out would, or as a block.
var behinds = [][]byte{{0}, {255}, {1, 0, 0, 255, 255}, {255, 255, 255, 255, 255, 255, 255, 255, 255}, bytes.Repeat([]byte{0}, 100), []byte("\x03\x00\x00\x00\x00\x01"), {98, 0, 98, 98}}

// places is numbers below n: all of few, some of many.
func places(n int) []int {
	var l []int
	for i := range n {
		if i < 200 || i >= n-10 || i%(n/10) == 0 {
			l = append(l, i)
		}
	}
	return l
}

// faulty asks for an error of what bits begin with: the same one, whatever stands behind, as it is met ahead of that.
func faulty(t *testing.T, s string, e api.Errno) {
	t.Helper()
	b := pack(s)
	for _, behind := range append([][]byte{nil}, behinds...) {
		both := append(bytes.Clone(b), behind...)
		answers(t, both, nil, 0, e)
		zlibAnswers(t, append([]byte{120, 156}, both...), nil, 0, e)
	}
}

// ended asks that bytes of bits end too early, or, if others stand behind, in what they tell then.
func ended(t *testing.T, s string) {
	t.Helper()
	answers(t, pack(s), nil, 0, api.ErrShort)
	zlibAnswers(t, append([]byte{120, 156}, pack(s)...), nil, 0, api.ErrShort)
}

// sumBytesOf is the four bytes of a sum, as Go's library tells it.
func sumBytesOf(told []byte) []byte {
	return binary.BigEndian.AppendUint32(nil, adler32.Checksum(told))
}
