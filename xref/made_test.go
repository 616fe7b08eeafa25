package xref

import (
	"fmt"
	"math/rand"
	"strings"
	"testing"

	"inkstand/api"
)

// Made texts and entries: what is answered is held against the document's words (want_test.go).

func checkText(t *testing.T, s string, at int) {
	t.Helper()
	n, e := wantStart(s)
	checkStart(t, s, n, e)
	l, o, e := wantParse(s, at)
	checkParse(t, s, at, l, o, e)
}

func checkEntries(t *testing.T, young, old []Entry) {
	t.Helper()
	for _, l := range [][]Entry{young, old} {
		s, e := wantWrite(l)
		checkWrite(t, l, s, e)
		if e == api.OK {
			checkAgain(t, l)
		}
	}
	want := wantMerge(young, old)
	checkMerge(t, young, old, want)
	s, e := wantWrite(want)
	checkWrite(t, want, s, e)
}

// Each text of a few tokens.
func TestShortTexts(t *testing.T) {
	few := []string{"xref", "trailer", "0", "1", "4096", "n", "f", "<<>>", "x", "-1", "1.0", "[", "(", "99999999", "startxref"}
	texts := []string{""}
	for from := 0; from < len(texts); from++ {
		s := texts[from]
		checkText(t, s, 0)
		checkText(t, "xref "+s, 0)
		checkText(t, "xref 0 1 "+s+" n trailer<<>>", 0)
		checkText(t, "xref 3 "+s+" trailer<<>>", 0)
		checkText(t, "1 startxref "+s, 0)
		if strings.Count(s, " ") < 4 {
			for _, piece := range few {
				texts = append(texts, s+piece+" ")
			}
		}
	}
}

// Each number of a few characters, behind each mark.
func TestShortNumbers(t *testing.T) {
	texts := []string{""}
	for from := 0; from < len(texts); from++ {
		s := texts[from]
		checkText(t, "startxref"+s, 0)
		checkText(t, "startxref 3 startxref\n"+s+"%%EOF", 0)
		checkText(t, "xref "+s+" 1 5 0 n trailer<<>>", 0)
		checkText(t, "xref 2 "+s+" 5 0 n trailer<<>>", 0)
		checkText(t, "xref 0 1 "+s+" 0 n trailer<<>>", 0)
		checkText(t, "xref 0 1 0 "+s+" n trailer<<>>", 0)
		checkText(t, "xref 0 1 0 5 "+s+" trailer<<>>", 0)
		if len(s) < 4 {
			for _, b := range "01+-.n%( \n" {
				texts = append(texts, s+string(b))
			}
		}
	}
}

// Each byte behind each of a table's tokens.
func TestEachByte(t *testing.T) {
	for b := range 256 {
		one := string([]byte{byte(b)})
		all := tokens()
		for i := range all {
			s := strings.Join(all[:i], " ")
			rest := strings.Join(all[i:], " ")
			checkText(t, s+one+rest, 0)
			checkText(t, s+" "+one+" "+rest, 0)
			checkText(t, s+one, 0)
		}
		checkText(t, "startxref"+one+"5", 0)
		checkText(t, "startxref 5"+one, 0)
		checkText(t, "startxref 5"+one+"6", 0)
		checkText(t, "startx"+one+"ref 5", 0)
		checkText(t, one+"startxref "+one+" 5", 0)
	}
}

// someTable is a table, in which at times something is wrong.
func someTable(r *rand.Rand) string {
	odd := []string{"", "x", "-1", "5.0", "99999999", "(", ")", "[", "trailer", "xref", "n", "f", "4096", "4095", "%", "startxref 5", "5 5"}
	one := func(s string) string {
		if r.Intn(60) == 0 {
			s = odd[r.Intn(len(odd))]
		}
		return s + []string{" ", "\n", "\r\n", " %x\n", "\x00"}[r.Intn(5)]
	}
	out := one("xref")
	for range r.Intn(4) {
		n := r.Intn(4)
		first := r.Intn(9)
		if r.Intn(9) == 0 {
			first = 4097 - r.Intn(5)
		}
		out += one(fmt.Sprint(first)) + one(fmt.Sprint(n))
		for range n {
			out += one(fmt.Sprintf("%010d", r.Intn(1<<r.Intn(23)))) + one(fmt.Sprintf("%05d", r.Intn(1<<r.Intn(18)))) + one("nf"[n%2:][:1])
		}
	}
	return out + one("trailer") + one("<</Size 5/A[1 0 R]>>") + one("startxref") + one(fmt.Sprint(r.Intn(len(out)*2+50))) + "%%EOF"
}

func TestManyTexts(t *testing.T) {
	r := rand.New(rand.NewSource(8))
	met := map[api.Errno]int{}
	for range 30000 {
		s := someTable(r)
		_, _, e := wantParse(s, 0)
		met[e]++
		if _, e := wantStart(s); e == api.ErrRange {
			met[100]++
		}
		for _, at := range []int{0, r.Intn(len(s) + 1), len(s), -1, len(s) + 1} {
			checkText(t, s, at)
		}
		checkText(t, s[:r.Intn(len(s))], 0)
		checkText(t, s+someTable(r), len(s))
	}
	if met[api.OK] < 10000 || met[api.ErrForm] < 3000 || met[api.ErrLarge] < 1000 || met[api.ErrRange] < 200 || met[api.ErrShort] < 50 || met[100] < 3000 {
		t.Error("too few of a kind:", met)
	}
}

// someEntries are entries with numbers that rise by little, in which at times something is wrong.
func someEntries(r *rand.Rand, wrong bool) []Entry {
	l := []Entry{}
	n := -1
	for range r.Intn(9) {
		n += 1 + r.Intn(3)*r.Intn(2)
		e := Entry{N: n, Off: r.Intn(1 << r.Intn(23)), Gen: r.Intn(99999 >> r.Intn(17)), Used: r.Intn(2) == 0}
		if wrong && r.Intn(4) == 0 {
			odd := []int{-1, 0, 1, 99999, 100000, 4095, 4096, 2147483, 2147484, 9999999999, 10000000000, -1 << 63, 1<<63 - 1}[r.Intn(13)]
			*[]*int{&e.N, &e.Off, &e.Gen}[r.Intn(3)] = odd
			n = min(max(n, e.N), 5000)
		}
		l = append(l, e)
	}
	return l
}

func TestManyEntries(t *testing.T) {
	r := rand.New(rand.NewSource(9))
	met := map[api.Errno]int{}
	for i := range 12000 {
		young, old := someEntries(r, i%3 == 0), someEntries(r, i%4 == 0)
		if i%5 == 0 {
			r.Shuffle(len(old), func(a, b int) { old[a], old[b] = old[b], old[a] })
		}
		checkEntries(t, young, old)
		checkEntries(t, append(young, old...), old)
		_, e := wantWrite(young)
		met[e]++
	}
	if met[api.OK] < 6000 || met[api.ErrArg] < 800 || met[api.ErrRange] < 200 {
		t.Error("too few of a kind:", met)
	}
}

// entriesOf are entries that bytes tell.
func entriesOf(s string) []Entry {
	l := []Entry{}
	for n := 0; len(s) > 3; s = s[4:] {
		n += int(int8(s[0]))%4 + 2
		e := Entry{N: n, Off: int(int8(s[1])), Gen: int(int8(s[2])), Used: s[3]&1 > 0}
		switch s[3] >> 1 {
		case 1:
			e.Off <<= s[0] & 63
		case 2:
			e.Gen <<= s[0] & 63
		case 3:
			e.N <<= s[0] & 63
		}
		l = append(l, e)
	}
	return l
}

func FuzzXref(f *testing.F) {
	f.Add("xref 0 1 5 0 n trailer<<>> startxref 0", 0, "\x00\x05\x00\x01\x01\x06\x00\x01")
	f.Add("xref 4096 0 3 2 5 0 n +6 1 f trailer<</A 1>>", 0, "\x00\x05\x01\x03\xff\xff\x00\x01")
	f.Fuzz(func(t *testing.T, s string, at int, bytes string) {
		checkText(t, s, at)
		checkText(t, s, 0)
		checkText(t, "startxref "+s, 0)
		checkText(t, "xref "+s+" trailer<<>>", 0)
		l := entriesOf(bytes)
		checkEntries(t, l[:len(l)/2], l[len(l)/2:])
		checkEntries(t, l, l)
	})
}
