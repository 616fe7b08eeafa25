package inflate

import (
	"bytes"
	"testing"

	"inkstand/api"
)

// P6.4

func TestZlib(t *testing.T) {
	zlibAnswers(t, []byte{120, 156, 75, 4, 0, 0, 98, 0, 98}, []byte("a"), 9, api.OK)
	zlibAnswers(t, []byte{120, 1, 75, 4, 0, 0, 98, 0, 98}, []byte("a"), 9, api.OK)
	zlibAnswers(t, []byte{120, 156, 3, 0, 0, 0, 0, 1}, nil, 8, api.OK)
	zlibAnswers(t, []byte{120, 156, 1, 0, 0, 255, 255, 0, 0, 0, 1}, nil, 11, api.OK)
	// Blocks that end at a byte's end, and within one.
	for i := range 8 {
		ahead, came := lead(i)
		tells(t, pack(ahead, fixed(true, givens("a\xff"))), append(came, 'a', 255))
	}
	for _, behind := range behinds {
		zlibAnswers(t, append([]byte{120, 156, 75, 4, 0, 0, 98, 0, 98}, behind...), []byte("a"), 9, api.OK)
	}
}

func TestZlibHead(t *testing.T) {
	right := 0
	for first := range 256 {
		for second := range 256 {
			e := api.OK
			if first&0x0f != 8 || first&0xf0 > 0x70 || (first<<8|second)%31 != 0 || second&0x20 != 0 {
				e = api.ErrForm
			}
			b := []byte{byte(first), byte(second), 75, 4, 0, 0, 98, 0, 98}
			if e == api.OK {
				right++
				zlibAnswers(t, b, []byte("a"), 9, e)
				// What the head tells else says nothing: how far back matches may be, how hard it was pressed.
				data := some(32768)
				far := append([]byte{byte(first), byte(second)}, pack(stored("", false, 0, data), fixed(true, match(3, 32768)))...)
				data = append(data, data[:3]...)
				zlibAnswers(t, append(far, sumBytesOf(data)...), data, len(far)+4, api.OK)
				continue
			}
			zlibAnswers(t, b, nil, 0, e)
			// Ahead of what is wrong with the rest, or lacks.
			for _, rest := range [][]byte{nil, {75}, {7}, {75, 4, 0}, {75, 4, 0, 1, 98, 0, 98}} {
				zlibAnswers(t, append([]byte{byte(first), byte(second)}, rest...), nil, 0, e)
			}
		}
	}
	// Eight firsts, and four seconds of each.
	if right != 32 {
		t.Error(right)
	}
}

func TestZlibShort(t *testing.T) {
	zlibAnswers(t, nil, nil, 0, api.ErrShort)
	zlibAnswers(t, []byte{}, nil, 0, api.ErrShort)
	// Of one byte it is so, whatever that is.
	for first := range 256 {
		zlibAnswers(t, []byte{byte(first)}, nil, 0, api.ErrShort)
	}
	zlibAnswers(t, []byte{120, 156}, nil, 0, api.ErrShort)
	for _, data := range []string{"", "a", "abcabcabcabc"} {
		for _, raw := range [][]byte{pack(fixed(true, givens(data))), pack(stored("", true, 0, []byte(data)))} {
			b := zlibbed(raw, []byte(data))
			for n := range b {
				zlibAnswers(t, b[:n], nil, 0, api.ErrShort)
			}
			// Too few for a sum, which are wrong, too.
			for n := range 4 {
				zlibAnswers(t, append(bytes.Clone(b[:len(b)-4]), []byte{7, 7, 7}[:min(n, 3)]...), nil, 0, api.ErrShort)
			}
		}
	}
}

func TestZlibSum(t *testing.T) {
	for _, data := range []string{"", "a", "abcabcabcabc"} {
		b := zlibbed(pack(fixed(true, givens(data))), []byte(data))
		for bit := range 32 {
			wrong := bytes.Clone(b)
			wrong[len(b)-4+bit/8] ^= 1 << (bit % 8)
			zlibAnswers(t, wrong, nil, 0, api.ErrForm)
			zlibAnswers(t, append(wrong, b[len(b)-4:]...), nil, 0, api.ErrForm)
		}
		// The highest first.
		last := b[len(b)-4:]
		wrong := append(bytes.Clone(b[:len(b)-4]), last[3], last[2], last[1], last[0])
		zlibAnswers(t, wrong, nil, 0, api.ErrForm)
		// Not one byte farther.
		zlibAnswers(t, append(append(bytes.Clone(b[:len(b)-4]), 9), last...), nil, 0, api.ErrForm)
	}
}

// What is wrong with the blocks goes ahead of the sum.
func TestZlibRaw(t *testing.T) {
	for _, x := range []struct {
		s string
		e api.Errno
	}{
		{head(true, 3), api.ErrForm}, {fixed(true, match(3, 1)), api.ErrForm}, {fixed(false), api.ErrShort}, {"10000000" + num(5, 16) + num(5^0xffff, 16), api.ErrShort},
	} {
		zlibAnswers(t, append([]byte{120, 156}, pack(x.s)...), nil, 0, x.e)
	}
	s, data := largeGiven(most)
	b := pack(s, given('a'))
	zlibAnswers(t, append([]byte{120, 156}, b...), nil, 0, api.ErrLarge)
	zlibAnswers(t, zlibbed(b, append(data, 'a')), nil, 0, api.ErrLarge)
	zlibAnswers(t, append([]byte{120, 157}, b...), nil, 0, api.ErrForm)
	wrong := zlibbed(pack(s, end), data)
	wrong[len(wrong)-1]++
	zlibAnswers(t, wrong, nil, 0, api.ErrForm)
}
