package store

import (
	"fmt"
	"math/rand"
	"strings"
	"testing"

	"inkstand/api"
)

// Made bytes and files: what is answered is held against the document's words (want_test.go).

func checkBytes(t *testing.T, s string) api.Errno {
	t.Helper()
	f, e := wantOpen(s)
	checkOpen(t, s, f, e)
	return e
}

// checkFile asks all of a file that is asked of one number, one object and one key.
func checkFile(t *testing.T, f File, n int, o api.Obj, key string) [3]api.Errno {
	t.Helper()
	var met [3]api.Errno
	checkFind(t, f, n, wantFind(f, n))
	v, e := wantResolve(f, o, 0)
	checkResolve(t, f, o, v, e)
	met[0] = e
	v, e = wantEntry(f, o, key)
	checkEntry(t, f, o, key, v, e)
	met[1] = e
	g, e := wantPut(f, n, o)
	checkPut(t, f, n, o, g, e)
	if e == api.OK {
		checkAgain(t, f, n, o)
	}
	checkFree(t, f, wantFree(f))
	s, e := wantData(f, o)
	checkData(t, f, o, s, e)
	met[2] = e
	return met
}

// pick is one of some texts.
func pick(r *rand.Rand, l ...string) string { return l[r.Intn(len(l))] }

// someObject is a numbered object behind the mark of its place, most often a right one.
func someObject(r *rand.Rand, n int) string {
	body := pick(r, "7", "(a)", "/A", "[1 0 R]", "<</A 1>>", "<</Length 3>>stream\nabc\nendstream", "null", " 2 0 R")
	if r.Intn(60) == 0 {
		body = pick(r, "", "[", "(", ")", "<</Length 9>>stream\nabc", "x", "99999999", "<</Length 3>>stream\nabcendstream ", strings.Repeat("[", 65))
	}
	return fmt.Sprintf("@o%d:%d %d obj%s endobj ", n, n+r.Intn(80)/79, n%3, body)
}

// someTable is a table behind the mark of its place, of objects up to a number.
func someTable(r *rand.Rand, k, objects, tables int) string {
	s := fmt.Sprintf("@t%d:xref ", k)
	for range r.Intn(4) {
		n := r.Intn(objects)
		count := 1 + r.Intn(min(3, objects-n))
		s += fmt.Sprintf("%d %d ", n, count)
		for i := n; i < n+count; i++ {
			place, gen := fmt.Sprintf("{o%d}", i), i%3
			if r.Intn(40) == 0 {
				place = pick(r, "{end}", "{end+1}", "0", "{o0}", "{t0}", "2147483")
			}
			if r.Intn(60) == 0 {
				gen++
			}
			s += fmt.Sprintf("%s %d %s ", place, gen, pick(r, "n", "n", "n", "f"))
		}
	}
	if r.Intn(60) == 0 {
		s += pick(r, "x ", "4095 2 ", "4095 2 ", "(", "1 ", "1 1 ", "-1 ", "99999999 ")
	}
	s += "trailer<</K " + fmt.Sprint(k)
	switch prev := k + 1 + r.Intn(30)/29; {
	case prev < tables:
		s += fmt.Sprintf("/Prev {t%d}", prev)
	case r.Intn(3) == 0:
		s += "/Prev " + pick(r, "-5", "{t0}.0", "(5)", "/A", "null", "1 0 R", "{end}", "{end+1}", "{t0}", "0", "{o0}")
	}
	return s + ">> "
}

// someBytes are a file's, most often of a right one.
func someBytes(r *rand.Rand) string {
	objects, tables := 1+r.Intn(6), 1+r.Intn(4)
	parts := []string{}
	for n := range objects {
		parts = append(parts, someObject(r, n))
	}
	for k := range tables {
		parts = append(parts, someTable(r, k, objects, tables))
	}
	r.Shuffle(len(parts), func(a, b int) { parts[a], parts[b] = parts[b], parts[a] })
	s := "%PDF-\n" + strings.Join(parts, pick(r, "", "\n", "% \n")) + "startxref {t0} )"
	if r.Intn(50) == 0 {
		s += "startxref" + pick(r, "", " x", " {end}", " {end+1}", " {o0}", " -1")
	}
	return laid(s)
}

func TestManyBytes(t *testing.T) {
	r := rand.New(rand.NewSource(9))
	met := map[api.Errno]int{}
	for range 20000 {
		met[checkBytes(t, someBytes(r))]++
	}
	for e, least := range map[api.Errno]int{api.OK: 8000, api.ErrForm: 1000, api.ErrShort: 300, api.ErrRange: 500, api.ErrCycle: 500, api.ErrLarge: 20, api.ErrDeep: 10} {
		if met[e] < least {
			t.Error("too few of a kind:", met)
		}
	}
}

// Each part of a file, and with each byte another one.
func TestBytesChanged(t *testing.T) {
	r := rand.New(rand.NewSource(11))
	files := []string{laid(whole), laid("%PDF-1.7\n@1:1 0 obj[1]endobj @y:xref 0 2 0 9 f {1} 0 n trailer<<>>@x:xref 1 2 {1} 0 n 0 0 f trailer<</Prev {y}>>startxref {x}\n%%EOF")}
	for range 20 {
		files = append(files, someBytes(r))
	}
	for i, s := range files {
		for n := range len(s) {
			checkBytes(t, s[:n])
			checkBytes(t, s[:n]+s[n+1:])
			checkBytes(t, s[n:])
			for _, b := range "09 x(%/" {
				checkBytes(t, s[:n]+string(b)+s[n+1:])
			}
			if i < 2 {
				for b := range 256 {
					checkBytes(t, s[:n]+string([]byte{byte(b)})+s[n+1:])
				}
			}
		}
	}
}

// What some Streams have: bytes that were pressed twice, once or not at all, and some that none of these are.
var someData = []string{pressed("ab", 2), pressed("ab", 1), pressed("ab", 1), "ab", "\x78", ""}

// someValue is an object that may lead to others, up to a number.
func someValue(r *rand.Rand, deep, numbers int) api.Obj {
	switch k := r.Intn(9); {
	case k < 3 || numbers < 5 && k < 6:
		return ref(r.Intn(numbers+2) - 1)
	case k == 3 && deep > 0:
		o := api.Obj{Kind: api.Arr}
		for range r.Intn(11) * r.Intn(2) {
			o.L = append(o.L, someValue(r, deep-1, numbers))
		}
		return o
	case k == 4 && deep > 0:
		return api.Obj{Kind: api.Dict, D: someEntries(r, deep-1, numbers)}
	case k == 5 && deep > 0:
		return api.Obj{Kind: api.Stream, D: someEntries(r, deep-1, numbers), S: pick(r, someData...)}
	case k < 8:
		return api.Obj{Kind: api.Name, S: pick(r, "Fl", "FlateDecode", "Fl", "X", "")}
	}
	return api.Obj{Kind: r.Intn(12) - 1, N: r.Intn(4), F: api.Fix(r.Intn(3000) - 1000), S: "x"}
}

// someEntries are a Stream's most often.
func someEntries(r *rand.Rand, deep, numbers int) []api.Entry {
	var d []api.Entry
	for range r.Intn(3) {
		d = append(d, api.Entry{Key: pick(r, "Filter", "Filter", "DecodeParms", "A", ""), V: someValue(r, deep, numbers)})
	}
	return d
}

func TestManyFiles(t *testing.T) {
	r := rand.New(rand.NewSource(12))
	met := [3]map[api.Errno]int{{}, {}, {}}
	for i := range 40000 {
		numbers := 2 + r.Intn(8)
		var f File
		for n := range numbers {
			if i%2 == 0 {
				n = r.Intn(numbers)
			}
			f.L = append(f.L, Numbered{N: n, G: r.Intn(3), O: someValue(r, 2, numbers)})
		}
		o := someValue(r, 3, numbers)
		if i%3 == 0 {
			o = api.Obj{Kind: api.Stream, D: someEntries(r, 2, numbers), S: pick(r, someData...)}
		}
		for k, e := range checkFile(t, f, r.Intn(numbers+2), o, pick(r, "Filter", "DecodeParms", "A", "")) {
			met[k][e]++
		}
	}
	for _, e := range []api.Errno{api.OK, api.ErrCycle} {
		if met[0][e] < 400 || met[1][e] < 400 || met[2][e] < 400 {
			t.Error("too few of a kind:", met)
		}
	}
	for e, least := range map[api.Errno]int{api.ErrType: 2000, api.ErrFilter: 1000, api.ErrForm: 80, api.ErrShort: 80, api.ErrLarge: 5} {
		if met[2][e] < least {
			t.Error("too few of a kind:", met)
		}
	}
}

func FuzzStore(f *testing.F) {
	r := rand.New(rand.NewSource(13))
	for range 20 {
		f.Add(someBytes(r), 3, "Filter")
	}
	f.Add("%PDF-\nxref trailer<</Prev 0>>startxref 0", 1, "Prev")
	f.Add("1 0 obj<</Filter/Fl/Length 9>>stream\n\x78\x9c\x4b\x04\x00\x00\x62\x00\x62 endstream endobj", 1, "Filter")
	f.Fuzz(func(t *testing.T, s string, n int, key string) {
		checkBytes(t, s)
		checkBytes(t, "%PDF-\n"+s+" startxref 6")
		// One object at 6, and perhaps a table.
		behind := func(prev string) string {
			return fmt.Sprintf("%%PDF-\n%s\nxref 1 1 6 0 n trailer<<%s>>startxref %d", s, prev, 7+len(s))
		}
		checkBytes(t, behind("/Prev 6"))
		checkBytes(t, behind(""))
		file, e := Open([]byte(behind("")))
		if e != api.OK {
			return
		}
		o := file.L[0].O
		checkFile(t, file, n, o, key)
		checkFile(t, file, 1, o, "Filter")
		checkFile(t, file, n, ref(n), "DecodeParms")
		checkFile(t, File{L: []Numbered{{N: n, O: o}, {N: 2, O: ref(n)}}}, 2, ref(2), key)
	})
}
