package inflate

import (
	"bytes"
	"testing"

	"inkstand/api"
)

// P6.3, blocks of the kind 0, and what all blocks have.

func TestRawStored(t *testing.T) {
	answers(t, []byte{1, 0, 0, 255, 255}, nil, 5, api.OK)
	answers(t, []byte{1, 1, 0, 254, 255, 'a'}, []byte("a"), 6, api.OK)
	for _, n := range []int{0, 1, 2, 255, 256, 257, 4096, 65534, 65535} {
		tells(t, pack(stored("", true, 0, some(n))), some(n))
	}
}

// The bits behind the kind are left out, up to the byte's end, wherever the block begins.
func TestRawStoredRest(t *testing.T) {
	for i := range 8 {
		ahead, came := lead(i)
		for _, rest := range []byte{0, 1} {
			for _, data := range []string{"", "abc", "\xff\xff"} {
				tells(t, pack(stored(ahead, true, rest, []byte(data))), append(bytes.Clone(came), data...))
			}
		}
	}
	// Behind the kind at a byte's end nothing is left out.
	ahead, came := lead(5)
	s := stored(ahead, true, 1, []byte("xyz"))
	if want := len(ahead) + 3 + 32 + 24; len(s) != want {
		t.Fatal(len(s), want)
	}
	tells(t, pack(s), append(came, "xyz"...))
}

func TestRawStoredTurned(t *testing.T) {
	for _, n := range []int{0, 1, 3, 255, 256, 65535} {
		right := pack(stored("", true, 0, some(n)))
		for bit := range 32 {
			b := bytes.Clone(right)
			b[1+bit/8] ^= 1 << (bit % 8)
			for _, wrong := range [][]byte{b, b[:5]} {
				answers(t, wrong, nil, 0, api.ErrForm)
			}
			answers(t, b[:4], nil, 0, api.ErrShort)
		}
		// They are turned bit by bit, not byte by byte, nor as they are, nor below 0.
		for _, turned := range []int{n, n>>8 | n<<8&0xff00, -n & 0xffff, (n ^ 0xffff) << 8 & 0xff00} {
			if turned != n^0xffff {
				faulty(t, "10000000"+num(n, 16)+num(turned, 16)+spread(some(n)), api.ErrForm)
			}
		}
	}
}

func TestRawStoredShort(t *testing.T) {
	for _, n := range []int{1, 2, 100, 65535} {
		b := pack(stored("", true, 0, some(n)))
		for _, less := range []int{1, n} {
			answers(t, b[:len(b)-less], nil, 0, api.ErrShort)
		}
	}
	ended(t, "")
	ended(t, "1")
	answers(t, nil, nil, 0, api.ErrShort)
	answers(t, []byte{}, nil, 0, api.ErrShort)
	answers(t, []byte{0}, nil, 0, api.ErrShort)
	answers(t, []byte{1}, nil, 0, api.ErrShort)
	// Not the last one, whatever it tells.
	answers(t, []byte{0, 0, 0, 255, 255}, nil, 0, api.ErrShort)
	answers(t, []byte{0, 1, 0, 254, 255, 'a'}, nil, 0, api.ErrShort)
}

func TestRawKind3(t *testing.T) {
	for i := range 8 {
		ahead, _ := lead(i)
		for _, last := range []bool{false, true} {
			faulty(t, ahead+head(last, 3), api.ErrForm)
		}
		// With bits missing of the head itself.
		if rest := (len(ahead) + 1) % 8; rest == 0 {
			ended(t, ahead+"1")
		}
		if rest := (len(ahead) + 2) % 8; rest == 0 {
			ended(t, ahead+"11")
		}
	}
	answers(t, []byte{7}, nil, 0, api.ErrForm)
	answers(t, []byte{6}, nil, 0, api.ErrForm)
	answers(t, []byte{255, 255, 255}, nil, 0, api.ErrForm)
}

// What is wrong is told also behind blocks that are right, and they tell nothing then.
func TestRawBlocks(t *testing.T) {
	one, two := some(300), []byte("two")
	s := stored("", false, 1, one)
	s = stored(s, false, 1, nil)
	s += fixed(false, givens("ab"), match(4, 2))
	s += fixed(false)
	s += ownBlock(false, "xyz")
	s = stored(s, false, 0, two)
	came := append(bytes.Clone(one), "ababab"+"xyz"+"two"...)
	// A match reaches back into each block ahead.
	for back := 1; back <= len(came); back++ {
		tells(t, pack(s, fixed(true, match(3, back))), append(bytes.Clone(came), reached(came, 3, back)...))
	}
	faulty(t, s+fixed(true, match(3, len(came)+1)), api.ErrForm)
	faulty(t, s+head(true, 3), api.ErrForm)
	tells(t, pack(s, fixed(true)), came)
	tells(t, pack(s, ownBlock(true, "x")), append(bytes.Clone(came), 'x'))
	tells(t, pack(stored(s, true, 1, two)), append(bytes.Clone(came), "two"...))
	answers(t, pack(s), nil, 0, api.ErrShort)
	// Behind the last one nothing is told, not even a block.
	b := pack(fixed(true, givens("a")), fixed(true, givens("b")))
	answers(t, b, []byte("a"), 3, api.OK)
}

// reached is n bytes, each as the one so far back of those that came.
func reached(came []byte, n, back int) []byte {
	far := came[len(came)-back:]
	var out []byte
	for i := range n {
		out = append(out, far[i%back])
	}
	return out
}

// How many bytes were begun, at each place within a byte where blocks may end.
func TestRawBegun(t *testing.T) {
	for i := range 8 {
		ahead, came := lead(i)
		for _, s := range []string{ahead + fixed(true), ahead + fixed(true, given(0)), ahead + fixed(true, given(255)), ahead + ownBlock(true, "q")} {
			b := pack(s)
			out, n, err := Raw(append(b, 1, 2, 3))
			if n != (len(s)+7)/8 || err != api.OK || !bytes.HasPrefix(out, came) {
				t.Errorf("%d bits: %d %v", len(s), n, err)
			}
			// What is left of the last byte is not looked at.
			for left := len(s); left%8 != 0; left++ {
				b[left/8] |= 1 << (left % 8)
				if _, n, err := Raw(b); n != len(b) || err != api.OK {
					t.Errorf("%d bits, and 1 behind: %d %v", len(s), n, err)
				}
			}
		}
	}
}
