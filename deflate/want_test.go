package deflate

import (
	"bytes"
	"encoding/binary"
	"fmt"
	"hash/adler32"
	"strings"

	"inkstand/api"
)

// The document's words told another way: matches are looked for as texts in texts, bits are texts of 0 and 1, and symbols stand in RFC 1951's tables.

// wantTokens is P7.1.
func wantTokens(b []byte) []Token {
	var l []Token
	for i := 0; i < len(b); {
		n, dist := wantMatch(b, i)
		if n == 0 {
			l = append(l, Token{b[i], 0, 0})
			n = 1
		} else {
			l = append(l, Token{0, n, dist})
		}
		i += n
	}
	return l
}

// wantMatch is the length of a place's longest match, 0 if it is below 3, and how far ahead the nearest of these is. Where n bytes stand ahead, n less 1 do so too.
func wantMatch(b []byte, i int) (n, dist int) {
	from := max(0, i-window)
	for k := 3; k <= 258 && i+k <= len(b); k++ {
		// It may reach beyond i, but begins ahead of it.
		j := bytes.LastIndex(b[from:i+k-1], b[i:i+k])
		if j < 0 {
			break
		}
		n, dist = k, i-from-j
	}
	return n, dist
}

// wantExpand is P7.2: first all tokens are asked, as many bytes as these are being told by their sum alone.
func wantExpand(l []Token) ([]byte, api.Errno) {
	there := 0
	for _, t := range l {
		switch {
		case t.Len == 0:
			there++
		case t.Len < 0, t.Len >= 259, t.Dist <= 0, t.Dist >= there+1:
			return nil, api.ErrArg
		default:
			there += t.Len
		}
	}
	if there >= most+1 {
		return nil, api.ErrLarge
	}
	var out []byte
	for _, t := range l {
		if t.Len == 0 {
			out = append(out, t.Lit)
			continue
		}
		// The last Dist bytes again and again, cut behind Len.
		again := out[len(out)-t.Dist:]
		out = append(out, bytes.Repeat(again, t.Len/t.Dist+1)[:t.Len]...)
	}
	return out, api.OK
}

// num is a number of n bits, its lowest one first.
func num(v, n int) string {
	s := ""
	for i := range n {
		s += string(rune('0' + v>>i&1))
	}
	return s
}

// code is a number of n bits, its highest one first.
func code(v, n int) string { return fmt.Sprintf("%0*b", n, v) }

// pack is bytes of bits; what is left of the last one is 0.
func pack(s string) []byte {
	b := make([]byte, (len(s)+7)/8)
	for i := range s {
		b[i/8] |= (s[i] - '0') << (i % 8)
	}
	return b
}

// given is the code of a symbol of the kind 1, as RFC 1951, 3.2.6 tells them.
func given(symbol int) string {
	switch {
	case symbol < 144:
		return code(0b00110000+symbol, 8)
	case symbol < 256:
		return code(0b110010000+symbol-144, 9)
	case symbol < 280:
		return code(symbol-256, 7)
	}
	return code(0b11000000+symbol-280, 8)
}

// The tables of RFC 1951, 3.2.5: of each symbol how many bits more, and the least number.
var (
	lengthTable   = [29][2]int{{0, 3}, {0, 4}, {0, 5}, {0, 6}, {0, 7}, {0, 8}, {0, 9}, {0, 10}, {1, 11}, {1, 13}, {1, 15}, {1, 17}, {2, 19}, {2, 23}, {2, 27}, {2, 31}, {3, 35}, {3, 43}, {3, 51}, {3, 59}, {4, 67}, {4, 83}, {4, 99}, {4, 115}, {5, 131}, {5, 163}, {5, 195}, {5, 227}, {0, 258}}
	distanceTable = [30][2]int{{0, 1}, {0, 2}, {0, 3}, {0, 4}, {1, 5}, {1, 7}, {2, 9}, {2, 13}, {3, 17}, {3, 25}, {4, 33}, {4, 49}, {5, 65}, {5, 97}, {6, 129}, {6, 193}, {7, 257}, {7, 385}, {8, 513}, {8, 769}, {9, 1025}, {9, 1537}, {10, 2049}, {10, 3073}, {11, 4097}, {11, 6145}, {12, 8193}, {12, 12289}, {13, 16385}, {13, 24577}}
)

// wantLength is a length, by the last symbol that may tell it.
func wantLength(n int) string {
	for i := len(lengthTable) - 1; ; i-- {
		if more, least := lengthTable[i][0], lengthTable[i][1]; least <= n {
			return given(257+i) + num(n-least, more)
		}
	}
}

// wantDistance is a distance, likewise.
func wantDistance(n int) string {
	for i := len(distanceTable) - 1; ; i-- {
		if more, least := distanceTable[i][0], distanceTable[i][1]; least <= n {
			return code(i, 5) + num(n-least, more)
		}
	}
}

// wantPressed is P7.3 of the kind 1, of tokens.
func wantPressed(l []Token) []byte {
	var s strings.Builder
	s.WriteString("1" + num(1, 2))
	for _, t := range l {
		if t.Len == 0 {
			s.WriteString(given(int(t.Lit)))
			continue
		}
		s.WriteString(wantLength(t.Len) + wantDistance(t.Dist))
	}
	s.WriteString(given(256))
	return pack(s.String())
}

// wantStored is P7.3 of the kind 0: how many blocks there are is reckoned ahead.
func wantStored(b []byte) []byte {
	blocks := max(1, (len(b)+65534)/65535)
	var out []byte
	for i := range blocks {
		first := byte(0)
		if i == blocks-1 {
			first = 1
		}
		part := b[65535*i : min(len(b), 65535*(i+1))]
		out = append(out, first)
		out = binary.LittleEndian.AppendUint16(out, uint16(len(part)))
		out = binary.LittleEndian.AppendUint16(out, uint16(65535-len(part)))
		out = append(out, part...)
	}
	return out
}

// wantSum is the four bytes behind the blocks.
func wantSum(b []byte) []byte { return binary.BigEndian.AppendUint32(nil, adler32.Checksum(b)) }
