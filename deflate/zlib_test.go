package deflate

import (
	"bytes"
	"slices"
	"testing"

	"inkstand/api"
	"inkstand/inflate"
)

// P7.4

func TestZlib(t *testing.T) {
	for _, x := range []struct {
		s    string
		kind int
		want []byte
	}{
		{"a", 1, []byte{120, 1, 75, 4, 0, 0, 98, 0, 98}},
		{"a", 0, []byte{120, 1, 1, 1, 0, 254, 255, 'a', 0, 98, 0, 98}},
		{"", 1, []byte{120, 1, 3, 0, 0, 0, 0, 1}},
		{"", 0, []byte{120, 1, 1, 0, 0, 255, 255, 0, 0, 0, 1}},
		{"hi", 0, []byte{120, 1, 1, 2, 0, 253, 255, 'h', 'i', 1, 59, 0, 210}},
	} {
		b, err := Zlib([]byte(x.s), x.kind)
		if !bytes.Equal(b, x.want) || err != api.OK {
			t.Errorf("Zlib(%q, %d): %v %v, not %v", x.s, x.kind, b, err, x.want)
		}
	}
}

// The sum has its highest byte first, whichever it is.
func TestZlibSum(t *testing.T) {
	for n := range 400 {
		b := slices.Concat(some(n), bytes.Repeat([]byte{255}, n%7*1000))
		for kind := range 2 {
			z, err := Zlib(b, kind)
			raw, _ := Raw(b, kind)
			if err != api.OK || len(z) != len(raw)+6 || z[0] != 120 || z[1] != 1 || !bytes.Equal(z[2:len(z)-4], raw) {
				t.Fatalf("Zlib(%s, %d): %s %v", short(b), kind, short(z), err)
			}
			sum := inflate.Adler(b)
			for i, v := range z[len(z)-4:] {
				if uint32(v) != sum>>(24-8*i)&255 {
					t.Errorf("Zlib(%s, %d): %v is not %x", short(b), kind, z[len(z)-4:], sum)
				}
			}
		}
	}
}

// Errors are Raw's, with nothing beside them.
func TestZlibErrors(t *testing.T) {
	for _, x := range []struct {
		n, kind int
		e       api.Errno
	}{{0, -1, api.ErrArg}, {1, 2, api.ErrArg}, {most + 1, 2, api.ErrArg}, {most + 1, -1, api.ErrArg}, {most + 1, 0, api.ErrLarge}, {most + 1, 1, api.ErrLarge}} {
		if b, err := Zlib(make([]byte, x.n), x.kind); b != nil || err != x.e {
			t.Errorf("Zlib of %d bytes, %d: %s %v", x.n, x.kind, short(b), err)
		}
	}
}
