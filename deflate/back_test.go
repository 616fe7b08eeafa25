package deflate

import (
	"bytes"
	"compress/flate"
	"compress/zlib"
	"io"
	"math/rand"
	"slices"
	"testing"

	"inkstand/api"
	"inkstand/inflate"
)

// P7.5: what was pressed is told again, and tokens are again what they were made of.

// comesBack asks it, by package inflate and by Go's library; and that nothing of it is left over.
func comesBack(t *testing.T, b []byte) {
	t.Helper()
	if out, err := Expand(Tokens(b)); !bytes.Equal(out, b) || err != api.OK {
		t.Errorf("Expand(Tokens(%s)): %s %v", short(b), short(out), err)
	}
	for kind := range 2 {
		raw, err := Raw(b, kind)
		if err != api.OK {
			t.Fatalf("Raw(%s, %d): %v", short(b), kind, err)
		}
		if out, n, err := inflate.Raw(raw); !bytes.Equal(out, b) || n != len(raw) || err != api.OK {
			t.Errorf("Raw(%s, %d) is told as %s %d %v", short(b), kind, short(out), n, err)
		}
		if out, err := io.ReadAll(flate.NewReader(bytes.NewReader(raw))); !bytes.Equal(out, b) || err != nil {
			t.Errorf("Raw(%s, %d) is told as %s %v", short(b), kind, short(out), err)
		}
		z, err := Zlib(b, kind)
		if err != api.OK {
			t.Fatalf("Zlib(%s, %d): %v", short(b), kind, err)
		}
		if out, n, err := inflate.Zlib(z); !bytes.Equal(out, b) || n != len(z) || err != api.OK {
			t.Errorf("Zlib(%s, %d) is told as %s %d %v", short(b), kind, short(out), n, err)
		}
		r, wrong := zlib.NewReader(bytes.NewReader(z))
		if wrong != nil {
			t.Fatalf("Zlib(%s, %d): %v", short(b), kind, wrong)
		}
		if out, wrong := io.ReadAll(r); !bytes.Equal(out, b) || wrong != nil {
			t.Errorf("Zlib(%s, %d) is told as %s %v", short(b), kind, short(out), wrong)
		}
	}
}

func TestBack(t *testing.T) {
	r := rand.New(rand.NewSource(6))
	for _, n := range []int{0, 1, 2, 3, 4, 5, 10, 100, 257, 258, 259, 1000, 32768, 40000, 65535, 65536, 70000, 131070, 131071, most} {
		for _, b := range [][]byte{make([]byte, n), some(n), made(r, n), made(r, n), bytes.Repeat([]byte("abcdefg"), n)[:n]} {
			comesBack(t, b)
		}
	}
	for _, s := range texts("ab", 8) {
		comesBack(t, []byte(s))
	}
}

// made is some bytes, much of which stands there more than once.
func made(r *rand.Rand, n int) []byte {
	var b []byte
	letters := 1 + r.Intn(1<<r.Intn(9))
	for len(b) < n {
		switch r.Intn(4) {
		case 0:
			b = append(b, byte(r.Intn(letters)))
		case 1:
			b = append(b, bytes.Repeat([]byte{byte(r.Intn(letters))}, r.Intn(20))...)
		default:
			// A part of what is there, now and then of what comes of itself.
			from := r.Intn(len(b) + 1)
			for range r.Intn(1 << r.Intn(9)) {
				if from < len(b) {
					b = append(b, b[from])
					from++
				}
			}
		}
	}
	return b[:n]
}

// All that the document says of some bytes.
func asks(t *testing.T, b []byte) {
	t.Helper()
	want := wantTokens(b)
	becomes(t, b, want)
	presses(t, b, 0, wantStored(b), api.OK)
	presses(t, b, 1, wantPressed(want), api.OK)
	comesBack(t, b)
}

func TestMade(t *testing.T) {
	r := rand.New(rand.NewSource(4))
	for range 3000 {
		asks(t, made(r, r.Intn(1<<r.Intn(12))))
	}
	for range 3 {
		asks(t, made(r, 40000))
	}
}

func FuzzDeflate(f *testing.F) {
	for _, s := range []string{"", "a", "aaaa", "abcabcabc", "abcdxabcyabcd", "q BT /F1 12 Tf 1 0 0 1 rg ET q BT"} {
		f.Add([]byte(s), 1)
	}
	f.Fuzz(func(t *testing.T, b []byte, kind int) {
		asks(t, b)
		if kind != 0 && kind != 1 {
			presses(t, b, kind, nil, api.ErrArg)
		}
		// The bytes as tokens, four each.
		var l []Token
		for x := range slices.Chunk(b, 4) {
			if len(x) == 4 {
				l = append(l, Token{x[0], int(int8(x[1])) + int(x[2]&1)*140, int(int8(x[3]))})
			}
		}
		want, e := wantExpand(l)
		expands(t, l, want, e)
	})
}
