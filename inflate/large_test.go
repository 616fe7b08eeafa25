package inflate

import (
	"bytes"
	"strings"
	"testing"

	"inkstand/api"
)

// P6.3, P6.5: what comes is no longer than MaxData.

const most = 1 << 20

// largeStored is blocks of the kind 0 of so many bytes, none of which is the last one.
func largeStored(n int) (string, []byte) {
	s, data := "", some(n)
	for left := data; len(left) > 0; {
		k := min(65535, len(left))
		s = stored(s, false, 0, left[:k])
		left = left[k:]
	}
	return s, data
}

// largeGiven is a block of the kind 1 of so many bytes, without its end; n is at least 4.
func largeGiven(n int) (string, []byte) {
	s := head(true, 1) + given('a')
	left := n - 1
	if left > 500 {
		times := (left - 250) / 258
		s += strings.Repeat(match(258, 1), times)
		left -= 258 * times
	}
	return s + strings.Repeat(given('a'), left), bytes.Repeat([]byte("a"), n)
}

// largeOwn is a block of the kind 2, likewise, with the texts of "a", of its end, and of lengths of 3 and 258.
func largeOwn(n int) (string, []byte, [4]string) {
	symbols := lengthsOf(286, map[int]int{'a': 2, 256: 2, 257: 2, 285: 2})
	texts, _ := wantTexts(symbols)
	s := own(true, symbols, []int{1}) + strings.Repeat(texts['a'], 1+(n-1)%258) + strings.Repeat(texts[285]+"0", (n-1)/258)
	return s, bytes.Repeat([]byte("a"), n), [4]string{texts['a'], texts[256], texts[257] + "0", texts[285] + "0"}
}

func TestRawLargeStored(t *testing.T) {
	for _, n := range []int{most - 1, most} {
		s, data := largeStored(n)
		answers(t, pack(stored(s, true, 0, nil)), data, len(s)/8+5, api.OK)
		answers(t, pack(s, fixed(true)), data, len(s)/8+2, api.OK)
		answers(t, pack(s, ownBlock(true, "")), data, len(pack(s, ownBlock(true, ""))), api.OK)
		answers(t, pack(s), nil, 0, api.ErrShort)
		// Another error is told behind them, as they are not too many.
		answers(t, pack(s, head(true, 3)), nil, 0, api.ErrForm)
		answers(t, pack(s, "10000000", num(1, 16), num(1, 16), num(7, 8)), nil, 0, api.ErrForm)
	}
	s, data := largeStored(most - 1)
	one := stored(s, true, 0, []byte("z"))
	answers(t, pack(one), append(bytes.Clone(data), 'z'), len(one)/8, api.OK)
	tooMany := stored(s, true, 0, []byte("zz"))
	answers(t, pack(tooMany), nil, 0, api.ErrLarge)
	answers(t, pack(tooMany)[:len(tooMany)/8-2], nil, 0, api.ErrShort)
	// Asked of each that comes: not of all that the block tells, of which some don't come.
	answers(t, pack(tooMany)[:len(tooMany)/8-1], nil, 0, api.ErrShort)
	many := pack(stored(s, true, 0, some(65535)))
	answers(t, many, nil, 0, api.ErrLarge)
	answers(t, many[:len(many)-65533], nil, 0, api.ErrLarge)
	answers(t, many[:len(many)-65534], nil, 0, api.ErrShort)
	full, _ := largeStored(most)
	answers(t, pack(stored(full, true, 0, []byte("z"))), nil, 0, api.ErrLarge)
	answers(t, pack(full, fixed(true, given('z'))), nil, 0, api.ErrLarge)
	answers(t, pack(full, fixed(true, match(3, 32768))), nil, 0, api.ErrLarge)
	answers(t, pack(full, ownBlock(true, "z")), nil, 0, api.ErrLarge)
	over, _ := largeStored(most + 1)
	answers(t, pack(over), nil, 0, api.ErrLarge)
	answers(t, pack(over, head(true, 3)), nil, 0, api.ErrLarge)
}

func TestRawLargeGiven(t *testing.T) {
	s, data := largeGiven(most)
	answers(t, pack(s, end), data, len(pack(s, end)), api.OK)
	zlibAnswers(t, zlibbed(pack(s, end), data), data, len(pack(s, end))+6, api.OK)
	for _, more := range []string{given('a'), given(255), match(3, 1), match(258, 1), given('a') + end} {
		answers(t, pack(s, more), nil, 0, api.ErrLarge)
		answers(t, pack(s, more, end), nil, 0, api.ErrLarge)
		zlibAnswers(t, zlibbed(pack(s, more), data), nil, 0, api.ErrLarge)
	}
	// The symbols that tell bytes are taken ahead of that, and may be wrong themselves.
	for _, wrong := range []string{given(286), given(287), givenLength(3) + code(30, 5), givenLength(3) + code(31, 5)} {
		answers(t, pack(s, wrong), nil, 0, api.ErrForm)
	}
	answers(t, pack(s), nil, 0, api.ErrShort)
	for _, x := range []struct {
		left, n int
		e       api.Errno
	}{{3, 3, api.OK}, {2, 3, api.ErrLarge}, {1, 3, api.ErrLarge}, {258, 258, api.OK}, {257, 258, api.ErrLarge}, {258, 257, api.OK}, {10, 11, api.ErrLarge}, {11, 11, api.OK}} {
		s, data := largeGiven(most - x.left)
		for _, back := range []int{1, 2, 300, 32768} {
			b := pack(s, match(x.n, back), end)
			if x.e != api.OK {
				answers(t, b, nil, 0, x.e)
				continue
			}
			answers(t, b, append(bytes.Clone(data), reached(data, x.n, back)...), len(b), api.OK)
		}
	}
}

func TestRawLargeOwn(t *testing.T) {
	s, data, texts := largeOwn(most)
	a, over, three, all := texts[0], texts[1], texts[2], texts[3]
	answers(t, pack(s, over), data, len(pack(s, over)), api.OK)
	for _, more := range []string{a, three, all} {
		answers(t, pack(s, more, over), nil, 0, api.ErrLarge)
	}
	s, data, _ = largeOwn(most - 3)
	data = append(data, "aaa"...)
	answers(t, pack(s, three, over), data, len(pack(s, three, over)), api.OK)
	answers(t, pack(s, a, a, a, over), data, len(pack(s, a, a, a, over)), api.OK)
	answers(t, pack(s, a, three, over), nil, 0, api.ErrLarge)
	answers(t, pack(s, all, over), nil, 0, api.ErrLarge)
	answers(t, pack(s, a, a, a, a, over), nil, 0, api.ErrLarge)
}

// Many blocks that tell nothing end, too.
func TestRawManyBlocks(t *testing.T) {
	for _, s := range []string{strings.Repeat(fixed(false), 4), stored("", false, 0, nil), strings.Repeat(ownBlock(false, ""), 8)} {
		b := bytes.Repeat(pack(s), 2000)
		answers(t, b, nil, 0, api.ErrShort)
		answers(t, append(bytes.Clone(b), pack(fixed(true, given('a')))...), []byte("a"), len(b)+3, api.OK)
	}
}
