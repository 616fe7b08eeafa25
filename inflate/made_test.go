package inflate

import (
	"bytes"
	"compress/flate"
	"compress/zlib"
	"io"
	"math/rand"
	"slices"
	"strings"
	"testing"

	"inkstand/api"
)

// P6.3 to P6.5: what others pressed, and made blocks, whose answers are held against the document's words (want_test.go).

// kindsOfData is bytes of several kinds, so many each.
func kindsOfData(n int) [][]byte {
	words := []string{"q", "BT", "/F1 12 Tf", "1 0 0 1 ", "rg\n", "ET", "0", "\x00", "re f ", "(Text) Tj"}
	r := rand.New(rand.NewSource(int64(n)))
	var text []byte
	for len(text) < n {
		text = append(text, words[r.Intn(len(words))]...)
	}
	few := make([]byte, n)
	for i := range few {
		few[i] = "ab"[r.Intn(2)]
	}
	rare := make([]byte, n)
	for i := range rare {
		rare[i] = byte(r.ExpFloat64() * 6)
	}
	return [][]byte{make([]byte, n), some(n), text[:n], few, rare, bytes.Repeat([]byte("abcdefg"), n)[:n]}
}

// Go's library presses by blocks of all kinds.
func TestRawPressed(t *testing.T) {
	for _, n := range []int{0, 1, 2, 3, 10, 100, 1000, 40000, 70000, most} {
		for _, data := range kindsOfData(n) {
			for _, level := range []int{-2, 0, 1, 6, 9} {
				if n == most && level > 1 {
					continue
				}
				var raw, whole bytes.Buffer
				w, _ := flate.NewWriter(&raw, level)
				z, _ := zlib.NewWriterLevel(&whole, level)
				for _, to := range []io.WriteCloser{w, z} {
					if _, err := to.Write(data); err != nil {
						t.Fatal(err)
					}
					if err := to.Close(); err != nil {
						t.Fatal(err)
					}
				}
				answers(t, raw.Bytes(), data, raw.Len(), api.OK)
				zlibAnswers(t, whole.Bytes(), data, whole.Len(), api.OK)
				zlibAnswers(t, append(whole.Bytes(), 1, 2, 3), data, whole.Len(), api.OK)
			}
		}
	}
}

// One byte more than may come.
func TestRawPressedLarge(t *testing.T) {
	for _, data := range kindsOfData(most + 1) {
		for _, level := range []int{-2, 0, 1} {
			var whole bytes.Buffer
			z, _ := zlib.NewWriterLevel(&whole, level)
			z.Write(data)
			z.Close()
			zlibAnswers(t, whole.Bytes(), nil, 0, api.ErrLarge)
		}
	}
}

// madeTree is lengths of a whole tree, of so many codes, at least 2, among so many symbols, one of which has one.
func madeTree(r *rand.Rand, used, all, one, longest int) []int {
	leaves := []int{1, 1}
	for len(leaves) < used {
		i := r.Intn(len(leaves))
		if leaves[i] < longest {
			leaves[i]++
			leaves = append(leaves, leaves[i])
		}
	}
	symbols := r.Perm(all)
	if at := slices.Index(symbols, one); at >= used {
		symbols[0] = one
	}
	lengths := make([]int, all)
	for i, n := range leaves {
		lengths[symbols[i]] = n
	}
	return lengths
}

// madeOwn is a block of the kind 2 with made trees.
func madeOwn(r *rand.Rand, last bool) string {
	n, m := 257+r.Intn(30), 2+r.Intn(29)
	symbols := madeTree(r, 2+r.Intn(n-1), n, 256, 15)
	distances := [][]int{{0}, {1}, {1, 1}, madeTree(r, 2+r.Intn(m-1), m, 0, 15), make([]int, m)}[r.Intn(5)]
	lengths := slices.Concat(symbols, distances)
	few, k := allFew, 19
	if r.Intn(2) == 0 {
		few = madeTree(r, 19, 19, 0, 7)
	} else if r.Intn(2) == 0 {
		few, k = spreadFew(lengths), 4
		for i, symbol := range fewOrder {
			if few[symbol] > 0 {
				k = max(k, i+1)
			}
		}
	}
	s := ownHead(last, n, len(distances), k, few)
	if few[16] > 0 && r.Intn(2) == 0 {
		s += shortly(few, lengths)
	} else {
		s += plainly(few, lengths)
	}
	texts, _ := wantTexts(symbols)
	backs, _ := wantTexts(distances)
	return s + madeSymbols(r, texts, backs) + texts[256]
}

// madeSymbols is some of a block's symbols, as their texts are; most of the distances are small.
func madeSymbols(r *rand.Rand, texts, backs []string) string {
	var s strings.Builder
	for range r.Intn(60) {
		i := r.Intn(len(texts))
		if i == 256 || texts[i] == "" {
			continue
		}
		s.WriteString(texts[i])
		if i > 256 && i < 286 {
			s.WriteString(num(r.Intn(32), lengthTable[i-257][0]))
			back := r.Intn(len(backs))
			if r.Intn(4) > 0 {
				back = r.Intn(min(6, len(backs)))
			}
			s.WriteString(backs[back])
			if back < 30 {
				s.WriteString(num(r.Intn(1<<13)>>r.Intn(13), distanceTable[back][0]))
			}
		}
	}
	return s.String()
}

// madeBlocks is some blocks, of all kinds.
func madeBlocks(r *rand.Rand) string {
	var texts, backs []string
	for i := range 288 {
		texts = append(texts, given(i))
	}
	for i := range 32 {
		backs = append(backs, code(i, 5))
	}
	s := ""
	for left := r.Intn(4); left >= 0; left-- {
		switch r.Intn(7) {
		case 0, 1:
			s = stored(s, left == 0, byte(r.Intn(2)), some(r.Intn(50)))
		case 2, 3:
			// Mostly those that may be.
			s += fixed(left == 0, madeSymbols(r, texts[:286], backs[:30]))
		case 4:
			s += fixed(left == 0, madeSymbols(r, texts, backs))
		default:
			s += madeOwn(r, left == 0)
		}
	}
	return s
}

// holds asks that Raw and Zlib answer as the document's words do, and as Go's library does, where it is right.
func holds(t *testing.T, b []byte) api.Errno {
	t.Helper()
	want, n, e := wantRaw(b)
	answers(t, b, want, n, e)
	if e == api.OK {
		got, err := io.ReadAll(flate.NewReader(bytes.NewReader(b)))
		if err != nil || !bytes.Equal(got, want) {
			t.Errorf("%s: %s, not %s", short(b), short(want), short(got))
		}
	}
	all := zlibbed(b, want)
	want, n, e2 := wantZlib(all)
	zlibAnswers(t, all, want, n, e2)
	want, n, e2 = wantZlib(b)
	zlibAnswers(t, b, want, n, e2)
	return e
}

func TestRawMade(t *testing.T) {
	r := rand.New(rand.NewSource(6))
	var met [13]int
	for range 1200 {
		b := pack(madeBlocks(r))
		met[holds(t, b)]++
		// With bits turned, and with bytes less.
		wrong := bytes.Clone(b)
		for range 1 + r.Intn(2) {
			wrong[r.Intn(len(wrong))] ^= 1 << r.Intn(8)
		}
		met[holds(t, wrong)]++
		met[holds(t, b[:r.Intn(len(b))])]++
		met[holds(t, append(b, some(r.Intn(4))...))]++

	}
	for _, e := range []api.Errno{api.OK, api.ErrForm, api.ErrShort} {
		if met[e] < 400 {
			t.Errorf("%v: met %d times", e, met[e])
		}
	}
}

// All of two bytes, and bytes of any kind.
func TestRawAny(t *testing.T) {
	for v := range 1 << 16 {
		b := []byte{byte(v), byte(v >> 8)}
		want, n, e := wantRaw(b)
		answers(t, b, want, n, e)
	}
	r := rand.New(rand.NewSource(7))
	for range 6000 {
		b := make([]byte, r.Intn(80))
		r.Read(b)
		if len(b) > 0 && r.Intn(2) == 0 {
			b[0] = b[0]&^7 | 5
		}
		holds(t, b)
	}
}

func FuzzInflate(f *testing.F) {
	r := rand.New(rand.NewSource(8))
	for range 50 {
		f.Add(pack(madeBlocks(r)))
	}
	f.Add([]byte{120, 156, 75, 4, 0, 0, 98, 0, 98})
	f.Fuzz(func(t *testing.T, b []byte) {
		holds(t, b)
		want, n, e := wantZlib(b)
		zlibAnswers(t, b, want, n, e)
		lengths := make([]int, len(b))
		for i, v := range b {
			lengths[i] = int(int8(v)) % 18
		}
		codes, e := wantCodes(lengths)
		checkCodes(t, lengths, codes, e)
	})
}
