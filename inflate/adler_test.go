package inflate

import (
	"bytes"
	"hash/adler32"
	"testing"
)

// P6.1

func TestAdler(t *testing.T) {
	for _, x := range []struct {
		s    string
		want uint32
	}{
		{"", 1}, {"a", 6422626}, {"\x00", 65537}, {"\x00\x00", 131073}, {"\x01", 131074}, {"\xff", 256<<16 | 256}, {"ab", 294<<16 | 196}, {"ba", 295<<16 | 196}, {"Wikipedia", 0x11E60398}, {"\xff\x00\xff", (256+256+511)<<16 | 511},
	} {
		if got := Adler([]byte(x.s)); got != x.want {
			t.Errorf("Adler(%q): %d, not %d", x.s, got, x.want)
		}
	}
	if got := Adler(nil); got != 1 {
		t.Error("Adler(nil):", got)
	}
}

// Both sums go round at 65521, each on its own.
func TestAdlerRound(t *testing.T) {
	// a is 65520, and then 0, by 256 bytes of 255 and one more.
	b := bytes.Repeat([]byte{255}, 256)
	for _, x := range []struct {
		last byte
		a    uint32
	}{{238, 65519}, {239, 65520}, {240, 0}, {241, 1}, {255, 15}} {
		if got := Adler(append(bytes.Clone(b), x.last)); got&0xffff != x.a {
			t.Errorf("Adler of 256 times 255 and %d: a %d, not %d", x.last, got&0xffff, x.a)
		}
	}
	// c is as many as there are bytes of 0.
	for _, x := range []struct {
		n    int
		want uint32
	}{{65520, 65520<<16 | 1}, {65521, 1}, {65522, 1<<16 | 1}, {2*65521 + 7, 7<<16 | 1}} {
		if got := Adler(make([]byte, x.n)); got != x.want {
			t.Errorf("Adler of %d times 0: %d, not %d", x.n, got, x.want)
		}
	}
}

func TestAdlerMany(t *testing.T) {
	for _, n := range []int{1, 2, 255, 256, 257, 5551, 5552, 5553, 65519, 65520, 65521, 65522, 65536, 131042, 1 << 20, 3<<20 + 1} {
		for _, b := range [][]byte{bytes.Repeat([]byte{255}, n), make([]byte, n), bytes.Repeat([]byte{1}, n), some(n)} {
			before := bytes.Clone(b)
			if got, want := Adler(b), adler32.Checksum(b); got != want {
				t.Errorf("Adler(%s): %d, not %d", short(b), got, want)
			}
			if !bytes.Equal(b, before) {
				t.Errorf("Adler(%s) changed them", short(b))
			}
		}
	}
}
