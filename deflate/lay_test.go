package deflate

import (
	"bytes"
	"fmt"
	"math/rand"
	"slices"
	"testing"

	"inkstand/api"
)

// What the tests of all promises use.

const (
	most   = 1 << 20
	window = 32768
)

// lit is the tokens of bytes, one each.
func lit(s string) []Token {
	var l []Token
	for i := range len(s) {
		l = append(l, Token{Lit: s[i]})
	}
	return l
}

// back is a token of n bytes, so far back.
func back(n, dist int) []Token { return []Token{{Len: n, Dist: dist}} }

// some is so many bytes that don't repeat soon; the same ones each time.
func some(n int) []byte {
	b := make([]byte, n)
	rand.New(rand.NewSource(1)).Read(b)
	return b
}

// unlike is n bytes, at most 48387, of which no three stand together twice, nor beside a byte below 128.
func unlike(n int) []byte {
	var b []byte
	for i := 0; len(b) < n; i++ {
		b = append(b, 255, byte(128+i/127), byte(128+i%127))
	}
	return b[:n]
}

// short is a value as Go tells it, cut where it is long.
func short(v any) string {
	s := fmt.Sprint(v)
	if len(s) > 100 {
		return fmt.Sprintf("(%d) %s ..", len(s), s[:100])
	}
	return s
}

// becomes asks what tokens bytes are, that they don't change, and that the answer is new each time.
func becomes(t *testing.T, b []byte, want []Token) {
	t.Helper()
	handed := bytes.Clone(b)
	l := Tokens(handed)
	if !bytes.Equal(handed, b) {
		t.Errorf("Tokens(%s) changed them", short(b))
	}
	clear(handed)
	if !slices.Equal(l, want) {
		t.Errorf("Tokens(%s): %s, not %s", short(b), short(l), short(want))
	}
	again := Tokens(b)
	clear(l)
	if !slices.Equal(again, want) {
		t.Errorf("Tokens(%s) again: %s, not %s", short(b), short(again), short(want))
	}
}

// expands asks what bytes tokens are, likewise.
func expands(t *testing.T, l []Token, want []byte, e api.Errno) {
	t.Helper()
	handed := slices.Clone(l)
	b, err := Expand(handed)
	if !slices.Equal(handed, l) {
		t.Errorf("Expand(%s) changed them", short(l))
	}
	clear(handed)
	if !bytes.Equal(b, want) || err != e || e != api.OK && b != nil {
		t.Errorf("Expand(%s): %s %v, not %s %v", short(l), short(b), err, short(want), e)
	}
	again, _ := Expand(l)
	clear(b)
	if !bytes.Equal(again, want) {
		t.Errorf("Expand(%s) again: %s, not %s", short(l), short(again), short(want))
	}
}

// presses asks what bytes are as blocks, alone and with a head and a sum, likewise.
func presses(t *testing.T, b []byte, kind int, raw []byte, e api.Errno) {
	t.Helper()
	pressesBy(t, "Raw", Raw, b, kind, raw, e)
	if e != api.OK {
		pressesBy(t, "Zlib", Zlib, b, kind, nil, e)
		return
	}
	pressesBy(t, "Zlib", Zlib, b, kind, slices.Concat([]byte{120, 1}, raw, wantSum(b)), e)
}

func pressesBy(t *testing.T, name string, call func([]byte, int) ([]byte, api.Errno), b []byte, kind int, want []byte, e api.Errno) {
	t.Helper()
	handed := bytes.Clone(b)
	out, err := call(handed, kind)
	if !bytes.Equal(handed, b) {
		t.Errorf("%s(%s, %d) changed them", name, short(b), kind)
	}
	clear(handed)
	if !bytes.Equal(out, want) || err != e || e != api.OK && out != nil {
		t.Errorf("%s(%s, %d): %s %v, not %s %v", name, short(b), kind, short(out), err, short(want), e)
	}
	again, _ := call(b, kind)
	clear(out)
	if !bytes.Equal(again, want) {
		t.Errorf("%s(%s, %d) again: %s, not %s", name, short(b), kind, short(again), short(want))
	}
}
