package deflate

import "inkstand/api"

const (
	// minLen and maxLen are how long a match may be that becomes a Token.
	minLen, maxLen = 3, 258
	// maxDist is how far ahead a match may be.
	maxDist = 32768
)

// Token is a byte, or what stands so far back.
type Token struct {
	Lit       byte
	Len, Dist int
}

// Tokens are bytes as tokens.
func Tokens(b []byte) []Token {
	var l []Token
	s := search{b, nextAhead(b)}
	for i := 0; i < len(b); {
		n, dist := s.longest(i)
		if n == 0 {
			l = append(l, Token{Lit: b[i]})
			i++
			continue
		}
		l = append(l, Token{Len: n, Dist: dist})
		i += n
	}
	return l
}

// nowhere is no place.
const nowhere = -1

// nextAhead is, for each place, the next one ahead where the same three bytes stand, or nowhere.
func nextAhead(b []byte) []int {
	ahead := make([]int, len(b))
	last := map[[minLen]byte]int{}
	for i := range b {
		ahead[i] = nowhere
		if i+minLen > len(b) {
			continue
		}
		three := [minLen]byte(b[i:])
		if j, met := last[three]; met {
			ahead[i] = j
		}
		last[three] = i
	}
	return ahead
}

// search looks for matches in bytes, by what nextAhead tells of them.
type search struct {
	b     []byte
	ahead []int
}

// longest is how long the longest match at a place is, and how far ahead the nearest of these; no bytes, if there is none of three.
func (s *search) longest(i int) (best, dist int) {
	most := min(maxLen, len(s.b)-i)
	for j := s.ahead[i]; j != nowhere && i-j <= maxDist && best < most; j = s.ahead[j] {
		// Most of them differ just behind as many bytes as the best one has, and are no longer than that.
		if s.b[j+best] != s.b[i+best] {
			continue
		}
		if n := s.same(i, j, most); n > best {
			best, dist = n, i-j
		}
	}
	return best, dist
}

// same is how many bytes from i and from j on are the same, of so many at most.
func (s *search) same(i, j, most int) int {
	for n := range most {
		if s.b[i+n] != s.b[j+n] {
			return n
		}
	}
	return most
}

// Expand is tokens as bytes.
func Expand(l []Token) ([]byte, api.Errno) {
	n, err := size(l)
	if err != api.OK {
		return nil, err
	}
	out := make([]byte, 0, n)
	for _, t := range l {
		if t.Len == 0 {
			out = append(out, t.Lit)
		}
		for range t.Len {
			out = append(out, out[len(out)-t.Dist])
		}
	}
	return out, api.OK
}

// size is how many bytes tokens are. A token that may not be goes ahead of too many bytes, wherever it stands.
func size(l []Token) (int, api.Errno) {
	n := 0
	for _, t := range l {
		if t.Len < 0 || t.Len > maxLen || t.Len > 0 && (t.Dist < 1 || t.Dist > n) {
			return 0, api.ErrArg
		}
		n += max(t.Len, 1)
	}
	if n > api.MaxData {
		return 0, api.ErrLarge
	}
	return n, api.OK
}
