package metric

import (
	"strings"
	"unicode/utf8"
)

// pairMark is what a text begins with whose characters are pairs of bytes.
const pairMark = "\xfe\xff"

// The numbers of characters above lastPair are told by two numbers: one of firstHigh and above, then one of firstLow and above, each with ten bits of what is above lastPair.
const (
	firstHigh = 55296
	firstLow  = 56320
	lastLow   = 57343
	lastPair  = 65535
	lowBits   = 10
	lowMask   = 1<<lowBits - 1
)

// Decode is a text string as UTF-8.
func Decode(s string) string {
	if pairs, ok := strings.CutPrefix(s, pairMark); ok {
		return decodePairs(pairs)
	}
	var b strings.Builder
	for i := range len(s) {
		r := rune(s[i])
		if !isAlone(r) {
			r = utf8.RuneError
		}
		b.WriteRune(r)
	}
	return b.String()
}

// Encode is UTF-8 as a text string.
func Encode(u string) string {
	// What begins as pairs do would be read as pairs.
	if s, ok := Bytes(u); ok && !strings.HasPrefix(s, pairMark) {
		return s
	}
	b := []byte(pairMark)
	for _, r := range u {
		b = appendChar(b, r)
	}
	return string(b)
}

// Bytes are a text's characters, a byte each.
func Bytes(u string) (string, bool) {
	var b []byte
	for _, r := range u {
		if !isAlone(r) {
			return "", false
		}
		b = append(b, byte(r))
	}
	return string(b), true
}

// isAlone: is a character told by one byte, of its number?
func isAlone(r rune) bool {
	switch {
	case r == '\t', r == '\n', r == '\r':
		return true
	case r >= 32 && r <= 126:
		return true
	}
	return r >= 161 && r <= 255 && r != 173
}

// decodePairs is pairs of bytes as UTF-8.
func decodePairs(s string) string {
	var b strings.Builder
	for s != "" {
		r, length := firstChar(s)
		b.WriteRune(r)
		s = s[length:]
	}
	return b.String()
}

// firstChar is the character with which pairs of bytes begin, and of how many bytes it is.
func firstChar(s string) (rune, int) {
	if len(s) < 2 {
		return utf8.RuneError, len(s)
	}
	r := firstPair(s)
	if r < firstHigh || r > lastLow {
		return r, 2
	}
	if r < firstLow && len(s) >= 4 {
		if low := firstPair(s[2:]); low >= firstLow && low <= lastLow {
			return lastPair + 1 + (r-firstHigh)<<lowBits + (low - firstLow), 4
		}
	}
	return utf8.RuneError, 2
}

// firstPair is the number that the first two bytes are, the high one first.
func firstPair(s string) rune { return rune(s[0])<<8 | rune(s[1]) }

// appendChar lays a character behind bytes, as a pair or two.
func appendChar(b []byte, r rune) []byte {
	if r <= lastPair {
		return appendPair(b, r)
	}
	r -= lastPair + 1
	return appendPair(appendPair(b, firstHigh+(r>>lowBits)), firstLow+(r&lowMask))
}

// appendPair lays a number behind bytes, the high one first.
func appendPair(b []byte, r rune) []byte { return append(b, byte(r>>8), byte(r)) }
