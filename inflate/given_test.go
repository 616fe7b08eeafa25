package inflate

import (
	"bytes"
	"testing"

	"inkstand/api"
)

// P6.3, blocks of the kind 1.

func TestRawGiven(t *testing.T) {
	answers(t, []byte{75, 4, 0}, []byte("a"), 3, api.OK)
	answers(t, []byte{3, 0}, nil, 2, api.OK)
	all := make([]byte, 256)
	s := ""
	for i := range all {
		all[i] = byte(i)
		s += given(i)
	}
	for i := range 8 {
		ahead, came := lead(i)
		tells(t, pack(ahead, fixed(true)), came)
		tells(t, pack(ahead, fixed(true, s)), append(bytes.Clone(came), all...))
		tells(t, pack(ahead, fixed(true, givens("\x00\x8f\x90\xff"))), append(bytes.Clone(came), 0, 143, 144, 255))
	}
	for i := range all {
		tells(t, pack(fixed(true, given(i))), all[i:i+1])
	}
}

// Each length, by each symbol that tells it.
func TestRawLengths(t *testing.T) {
	met := map[int]int{}
	for i, row := range lengthTable {
		for more := range 1 << row[0] {
			n := row[1] + more
			met[n]++
			symbol := given(257+i) + num(more, row[0])
			tells(t, pack(fixed(true, given('a'), symbol, givenDistance(1))), bytes.Repeat([]byte("a"), n+1))
		}
	}
	for n := 3; n <= 258; n++ {
		want := 1
		if n == 258 {
			want = 2
		}
		if met[n] != want {
			t.Errorf("%d: by %d symbols", n, met[n])
		}
	}
	tells(t, pack(fixed(true, givens("ab"), given(284), "11111", givenDistance(2), given('c'))), append(bytes.Repeat([]byte("ab"), 130), 'c'))
	tells(t, pack(fixed(true, givens("ab"), given(285), givenDistance(2), given('c'))), append(bytes.Repeat([]byte("ab"), 130), 'c'))
}

// Each distance, from the least that its symbol tells on.
func TestRawDistances(t *testing.T) {
	data := some(32768)
	ahead := stored("", false, 0, data)
	want := 1
	for i, row := range distanceTable {
		if row[1] != want {
			t.Fatal(i, row, want)
		}
		for more := range 1 << row[0] {
			if back := row[1] + more; more < 40 || more > 1<<row[0]-40 || more%97 == 0 {
				b := pack(ahead, fixed(true, given(260), code(i, 5), num(more, row[0])))
				answers(t, b, append(bytes.Clone(data), reached(data, 6, back)...), len(b), api.OK)
			}
		}
		want += 1 << row[0]
	}
	if want != 32769 {
		t.Error(want)
	}
}

// As far back as there are bytes, and one farther.
func TestRawFar(t *testing.T) {
	for _, n := range []int{1, 2, 3, 4, 5, 6, 7, 100, 256, 257, 258, 1000, 24576, 24577, 32767, 32768} {
		data := some(n)
		ahead := stored("", false, 0, data)
		tells(t, pack(ahead, fixed(true, match(3, n))), append(bytes.Clone(data), reached(data, 3, n)...))
		tells(t, pack(ahead, fixed(true, match(258, n))), append(bytes.Clone(data), reached(data, 258, n)...))
		if n < 32768 {
			for _, length := range []int{3, 10, 258} {
				faulty(t, ahead+fixed(true, match(length, n+1)), api.ErrForm)
				faulty(t, ahead+head(true, 1)+match(length, n+1), api.ErrForm)
			}
			faulty(t, ahead+fixed(true, match(3, 32768)), api.ErrForm)
			tells(t, pack(ahead, fixed(true, given(9), match(3, n+1))), append(append(bytes.Clone(data), 9), reached(append(data, 9), 3, n+1)...))
		}
	}
	data := some(40000)
	tells(t, pack(stored("", false, 0, data), fixed(true, match(258, 32768))), append(bytes.Clone(data), data[40000-32768:40000-32768+258]...))
	for _, back := range []int{1, 2, 5, 32768} {
		faulty(t, fixed(true, match(3, back)), api.ErrForm)
	}
}

// A match may reach into what it tells itself.
func TestRawOverlap(t *testing.T) {
	data := []byte("abcdefghij")
	for back := 1; back <= len(data); back++ {
		for n := 3; n <= 258; n++ {
			b := pack(fixed(true, givens(string(data)), match(n, back)))
			answers(t, b, append(bytes.Clone(data), reached(data, n, back)...), len(b), api.OK)
		}
	}
	tells(t, pack(fixed(true, givens("ab"), match(5, 2), match(4, 1), match(3, 11))), []byte("abababa"+"aaaa"+"aba"))
}

func TestRawNoSymbol(t *testing.T) {
	for i := range 8 {
		ahead, _ := lead(i)
		for _, symbol := range []int{286, 287} {
			// As soon as it is met, ahead of what would be of its distance.
			faulty(t, ahead+head(true, 1)+given(symbol), api.ErrForm)
			faulty(t, ahead+head(true, 1)+given('a')+given(symbol)+givenDistance(1), api.ErrForm)
		}
		for _, symbol := range []int{30, 31} {
			faulty(t, ahead+head(true, 1)+given('a')+givenLength(3)+code(symbol, 5), api.ErrForm)
			faulty(t, ahead+head(true, 1)+givenLength(3)+code(symbol, 5)+num(0, 13)+end, api.ErrForm)
		}
		b, came := lead(i)
		data := stored(b, false, 0, some(32768))
		came = append(came, some(32768)...)
		b += data[len(b):]
		tells(t, pack(b, fixed(true, given(285), code(29, 5), num(1<<13-1, 13))), append(bytes.Clone(came), reached(came, 258, 32768)...))
	}
}

// Bits that end within a symbol, or within the bits behind it, or ahead of a symbol.
func TestRawGivenShort(t *testing.T) {
	s := head(true, 1) + given(200) + given(284) + "10101" + code(29, 5) + num(5, 13)
	for n := range len(s) {
		if n%8 == 0 {
			ended(t, s[:n])
		}
	}
	// Too far back is asked behind the distance's bits alone.
	for i := range 8 {
		ahead, _ := lead(i)
		all := ahead + head(true, 1) + givenLength(3) + code(29, 5) + num(1<<13-1, 13)
		for n := len(ahead); n < len(all); n++ {
			if n%8 == 0 {
				ended(t, all[:n])
			}
		}
		faulty(t, all, api.ErrForm)
	}
}
