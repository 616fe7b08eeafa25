package store

import (
	"fmt"
	"math/rand"
	"slices"
	"strings"
	"testing"

	"inkstand/api"
)

// P9.1

// whole is a file of a few objects and one table.
const whole = "%PDF-1.7\n@1:1 0 obj<</A 2 0 R>>endobj @2:2 5 obj(b)endobj @x:xref 0 3 0 65535 f {1} 0 n {2} 5 n trailer<</Size 3/Root 1 0 R>>startxref {x} %%EOF"

func wholeFile() File {
	return file("<</Size 3/Root 1 0 R>>", one(1, 0, "<</A 2 0 R>>"), one(2, 5, "(b)"))
}

// The chapter's example.
func TestExample(t *testing.T) {
	checkOpen(t, "%PDF-1.7\n1 0 obj\n[1 /A]\nendobj\nxref\n1 1\n0000000009 00000 n \ntrailer\n<<>>\nstartxref\n31\n%%EOF\n", file("<<>>", one(1, 0, "[1 /A]")), api.OK)
}

func TestOpen(t *testing.T) {
	checkOpen(t, laid(whole), wholeFile(), api.OK)
	// Of no objects.
	checkOpen(t, laid("%PDF-\n@x:xref trailer<<>>startxref {x}"), file("<<>>"), api.OK)
	checkOpen(t, laid("%PDF-\n@x:xref 0 1 0 0 f trailer<</A 1/A 2>>startxref {x}"), file("<</A 2>>"), api.OK)
	// The number 0 is one like others; the greatest one.
	checkOpen(t, laid("%PDF-\n@0:0 0 obj 7 endobj @9:4095 2147483 obj 8 endobj @x:xref 4095 1 {9} 2147483 n 0 1 {0} 0 n trailer<<>>startxref {x}"), file("<<>>", one(0, 0, "7"), one(4095, 2147483, "8")), api.OK)
	// A Stream, and its bytes as they are.
	checkOpen(t, laid("%PDF-\n@1:1 0 obj<</Length 3>>stream\r\n\x00\xff\nendstream endobj @x:xref 1 1 {1} 0 n trailer<<>>startxref {x}"), File{L: []Numbered{{N: 1, O: stream("<</Length 3>>", "\x00\xff\n")}}, Trailer: obj("<<>>")}, api.OK)
	// Each kind of object, Null too.
	for _, o := range []string{"null", "true", "false", "7", "-7.5", "/A", "(a)", "[]", "[1[2]]", "<<>>", "<</A<</B 1>>>>", "3 0 R", "1 0 R"} {
		checkOpen(t, laid("%PDF-\n@1:1 0 obj "+o+" endobj @x:xref 1 1 {1} 0 n trailer<<>>startxref {x}"), file("<<>>", one(1, 0, o)), api.OK)
	}
	// Numbers that the text tells otherwise, an object ahead of whose place stands white, a place within something else.
	checkOpen(t, laid("%PDF-\n@1: %x\n +1 00 obj 7 endobj @x: %\n xref 1 1 {1} -0 n trailer<<>>startxref {x}"), file("<<>>", one(1, 0, "7")), api.OK)
	checkOpen(t, laid("%PDF-\n@2:2 0 obj(@1:1 0 obj 7 endobj)endobj @x:xref 1 2 {1} 0 n {2} 0 n trailer<<>>startxref {x}"), file("<<>>", one(1, 0, "7"), one(2, 0, "(1 0 obj 7 endobj)")), api.OK)
	checkOpen(t, laid("%PDF-1@1:1 0 obj 7 endobj @x:xref 1 1 {1} 0 n trailer<</A(@y:xref 1 0 trailer<<>>)/Prev {y}>>startxref {x}"), File{L: []Numbered{one(1, 0, "7")}, Trailer: obj("<</A(xref 1 0 trailer<<>>)/Prev 56>>")}, api.OK)
	// All in one line behind the mark: at 0 it is a comment.
	checkOpen(t, "%PDF-\nxref trailer<<>>startxref 0", file("<<>>"), api.OK)
	checkOpenWrong(t, "%PDF- xref trailer<<>>startxref 0", api.ErrShort)
}

func TestOpenBegin(t *testing.T) {
	s := laid(whole)
	for n := range len("%PDF-") {
		checkOpenWrong(t, s[:n], api.ErrForm)
		checkOpenWrong(t, s[:n]+s[n+1:], api.ErrForm)
		checkOpenWrong(t, s[:n]+"x"+s[n+1:], api.ErrForm)
		checkOpenWrong(t, s[:n]+string(rune(s[n]^32))+s[n+1:], api.ErrForm)
	}
	for _, ahead := range []string{" ", "\n", "%", "x", "\x00", "\xef\xbb\xbf", "%FDF-1.2\n", "%PDF", "%PDF+"} {
		checkOpenWrong(t, ahead+s, api.ErrForm)
	}
	for _, b := range []string{"", "x", "%PDF", "%pdf-1.7", "PDF-", "%FDF-1.2\nxref trailer<<>>startxref 0"} {
		checkOpenWrong(t, b, api.ErrForm)
	}
	if f, e := Open(nil); !same(f, File{}) || e != api.ErrForm {
		t.Error(f, e)
	}
	// What is behind the mark is not looked at.
	for _, version := range []string{"", "1.0", "2.0", "x", "99999999", ")", "\xff\x00"} {
		checkOpen(t, laid("%PDF-"+version+whole[len("%PDF-1.7"):]), wholeFile(), api.OK)
	}
}

// xref.Start's errors, and they go ahead of all others but the begin's.
func TestOpenStart(t *testing.T) {
	for s, e := range map[string]api.Errno{
		"": api.ErrForm, "startxref": api.ErrForm, "startxref -1": api.ErrForm, "startxref 9.0": api.ErrForm, "startxref x": api.ErrForm, "startxref (": api.ErrForm, "startxref )": api.ErrForm, "startxref /A": api.ErrForm,
		"startxref {end+1}": api.ErrRange, "startxref 2147483": api.ErrRange, "startxref 99999999": api.ErrRange,
		"startxref {end}": api.ErrShort, "startxref {x} startxref {end}": api.ErrShort, "startxref {x} startxref x": api.ErrForm, "startxref {x+1}": api.ErrForm, "startxref {x-1}": api.ErrForm,
	} {
		checkOpenWrong(t, laid("%PDF-\n)@x:xref trailer<<>>"+s), e)
		// Wrong objects there, and a ring of tables.
		checkOpenWrong(t, laid("%PDF-\n)@x:xref 1 1 2147483 0 n trailer<</Prev {x}>>"+s), e)
		checkOpenWrong(t, laid("%PDX-\n)@x:xref trailer<<>>"+s), api.ErrForm)
	}
	checkOpen(t, laid("%PDF-\n@x:xref trailer<<>>startxref x startxref {x}"), file("<<>>"), api.OK)
}

// Tables, each with an older one behind it.
func TestOpenPrev(t *testing.T) {
	objects := "@a:1 0 obj(a)endobj @b:1 0 obj(b)endobj @c:1 1 obj(c)endobj @d:2 0 obj(d)endobj @e:2 0 obj(e)endobj @f:3 0 obj(f)endobj "
	for _, x := range []struct {
		s string
		l []Numbered
	}{
		// One object in one of two tables, in both, used there or not.
		{"@y:xref 1 1 {a} 0 n trailer<<>>@x:xref trailer<</A 1/Prev {y}>>", []Numbered{one(1, 0, "(a)")}},
		{"@y:xref 1 1 {a} 0 n trailer<<>>@x:xref 1 1 {b} 0 n trailer<</A 1/Prev {y}>>", []Numbered{one(1, 0, "(b)")}},
		{"@y:xref 1 1 {b} 0 n trailer<<>>@x:xref 1 1 {c} 1 n trailer<</A 1/Prev {y}>>", []Numbered{one(1, 1, "(c)")}},
		{"@y:xref 1 1 {b} 0 n trailer<<>>@x:xref 1 1 {b} 0 f trailer<</A 1/Prev {y}>>", nil},
		{"@y:xref 1 1 {b} 0 f trailer<<>>@x:xref 1 1 {b} 0 n trailer<</A 1/Prev {y}>>", []Numbered{one(1, 0, "(b)")}},
		{"@y:xref 1 1 {b} 0 n trailer<<>>@x:xref 1 0 2 1 {d} 0 n trailer<</A 1/Prev {y}>>", []Numbered{one(1, 0, "(b)"), one(2, 0, "(d)")}},
		{"@y:xref 2 1 {d} 0 n trailer<<>>@x:xref 1 1 {a} 0 n trailer<</A 1/Prev {y}>>", []Numbered{one(1, 0, "(a)"), one(2, 0, "(d)")}},
		// One table with a number more than once: its first one counts.
		{"@x:xref 1 1 {a} 0 n 1 1 {b} 0 n 1 1 0 0 f trailer<</A 1>>", []Numbered{one(1, 0, "(a)")}},
		{"@x:xref 1 1 0 0 f 1 1 {b} 0 n trailer<</A 1>>", nil},
		{"@y:xref 1 1 {a} 0 n 1 1 {b} 0 n trailer<<>>@x:xref 2 1 {e} 0 n 2 1 {d} 0 n trailer<</A 1/Prev {y}>>", []Numbered{one(1, 0, "(a)"), one(2, 0, "(e)")}},
		// Three tables; the older ones' trailers tell their Prev alone.
		{"@z:xref 1 1 {a} 0 n trailer<</Z 1>>@y:xref 2 1 {d} 0 n trailer<</B 1/Prev {z}/Root 9 0 R>>@x:xref 3 1 {f} 0 n trailer<</A 1/Prev {y}>>", []Numbered{one(1, 0, "(a)"), one(2, 0, "(d)"), one(3, 0, "(f)")}},
		{"@z:xref 1 3 {a} 0 n {d} 0 n {f} 0 n trailer<<>>@y:xref 1 2 {b} 0 n 0 0 f trailer<</Prev {z}>>@x:xref 1 1 {c} 1 n trailer<</A 1/Prev {y}>>", []Numbered{one(1, 1, "(c)"), one(3, 0, "(f)")}},
		{"@z:xref 1 1 {a} 0 n trailer<<>>@y:xref 1 1 {b} 0 n trailer<</Prev {z}>>@x:xref trailer<</A 1/Prev {y}>>", []Numbered{one(1, 0, "(b)")}},
		{"@z:xref 1 1 {a} 0 n trailer<<>>@y:xref 1 1 0 0 f trailer<</Prev {z}>>@x:xref 1 1 {b} 0 n trailer<</A 1/Prev {y}>>", []Numbered{one(1, 0, "(b)")}},
		// Tables that stand in another order than they are met in.
		{"@x:xref 3 1 {f} 0 n trailer<</A 1/Prev {y}>>@z:xref 1 2 {a} 0 n {e} 0 n trailer<<>>@y:xref 2 1 {d} 0 n trailer<</Prev {z}>>", []Numbered{one(1, 0, "(a)"), one(2, 0, "(d)"), one(3, 0, "(f)")}},
		// A wrong entry that a younger one takes the place of.
		{"@y:xref 1 3 9999 0 n {d} 7 n {a} 0 n trailer<<>>@x:xref 1 1 {a} 0 n 2 2 0 0 f {f} 0 n trailer<</A 1/Prev {y}>>", []Numbered{one(1, 0, "(a)"), one(3, 0, "(f)")}},
		{"@x:xref 1 3 {end+1} 0 f 2147483 0 f 0 9 f trailer<</A 1>>", nil},
	} {
		s := laid("%PDF-\n" + objects + x.s + "startxref {x}")
		f, e := Open([]byte(s))
		f.Trailer = dropped(f.Trailer, "Prev")
		if want := (File{L: x.l, Trailer: obj("<</A 1>>")}); !same(f, want) || e != api.OK {
			t.Errorf("%q: %s %v, not %s", s, cut(f), e, cut(want))
		}
	}
	s := laid("%PDF-\n@y:xref trailer<</B 1>>@x:xref trailer<</Prev {y}/A 1>>startxref {x}")
	checkOpen(t, s, file("<</Prev 6/A 1>>"), api.OK)
}

// dropped is a Dict without an entry.
func dropped(o api.Obj, key string) api.Obj {
	o.D = slices.DeleteFunc(slices.Clone(o.D), func(x api.Entry) bool { return x.Key == key })
	return o
}

func TestOpenCycle(t *testing.T) {
	for _, s := range []string{
		"@x:xref trailer<</Prev {x}>>",
		"@y:xref trailer<</Prev {x}>>@x:xref trailer<</Prev {y}>>",
		"@y:xref trailer<</Prev {y}>>@x:xref trailer<</Prev {y}>>",
		"@z:xref trailer<</Prev {x}>>@y:xref trailer<</Prev {z}>>@x:xref trailer<</Prev {y}>>",
		"@z:xref trailer<</Prev {y}>>@y:xref trailer<</Prev {z}>>@x:xref trailer<</Prev {y}>>",
		"@z:xref trailer<</Prev {z}>>@y:xref trailer<</Prev {z}>>@x:xref trailer<</Prev {y}>>",
		// Ahead of errors of objects, though the first table's.
		"@x:xref 1 1 {end+1} 0 n trailer<</Prev {x}>>",
		"@x:xref 1 1 {x} 0 n trailer<</Prev {x}>>",
		"@x:xref trailer<</Prev +{x}>>",
		// One table at two places: the place is met, not the table.
		"@x:%\n@y:xref trailer<</Prev {y}>>",
		"@y:%\n@x:xref trailer<</Prev {y}>>",
		"@y: \n@x:xref trailer<</Prev {y}>>",
	} {
		checkOpenWrong(t, laid("%PDF-\n"+s+"startxref {x}"), api.ErrCycle)
	}
	checkOpenWrong(t, "%PDF-\nxref trailer<</Prev 0>>startxref 0", api.ErrCycle)
	checkOpenWrong(t, "%PDF-\nxref trailer<</Prev -0>>startxref 0", api.ErrCycle)
	checkOpenWrong(t, "%PDF-\nxref trailer<</Prev 0>>startxref 6", api.ErrCycle)
}

// A long row of tables, and one with something else, or a ring, at its end.
func TestOpenManyTables(t *testing.T) {
	const n = 20000
	s := "%PDF-\n1 0 obj(a)endobj "
	first, last := len(s), 0
	all := []byte(s)
	for i := range n {
		prev := fmt.Sprintf(told, last)
		if i == 0 {
			prev = "null   "
		}
		last = len(all)
		// Older tables tell of the object 1, too, but of another place.
		all = fmt.Appendf(all, "xref %d 1 %d 0 n trailer<</Prev %s>>\n", 1+i%4095, i%3*i, prev)
	}
	youngest := len(all)
	all = fmt.Appendf(all, "xref 1 1 6 0 n 2 4094 %strailer<</Prev %d>>startxref %d", strings.Repeat("0 0 f ", 4094), last, youngest)
	s = string(all)
	checkOpen(t, s, file(fmt.Sprintf("<</Prev %d>>", last), one(1, 0, "(a)")), api.OK)
	for prev, e := range map[int]api.Errno{first: api.ErrCycle, last: api.ErrCycle, youngest: api.ErrCycle, 6: api.ErrForm, len(s): api.ErrShort, len(s) + 1: api.ErrRange} {
		checkOpenWrong(t, strings.Replace(s, "null   ", fmt.Sprintf(told, prev), 1), e)
	}
}

// Where a Prev tells a place where no table is.
func TestOpenPrevWrong(t *testing.T) {
	for prev, e := range map[string]api.Errno{
		"{end}": api.ErrShort, "{end+1}": api.ErrRange, "{end+9}": api.ErrRange, "2147483": api.ErrRange, "{end-1}": api.ErrForm, "{x+1}": api.ErrForm, "{x-1}": api.ErrCycle, "0": api.ErrCycle, "{p}": api.ErrForm,
	} {
		for _, entries := range []string{"", "1 1 2147483 0 n ", "0 1 {x} 0 n "} {
			checkOpenWrong(t, laid("%PDF-\n @x:xref "+entries+"trailer<</A 1/Prev @p:"+prev+">>startxref {x} 7"), e)
			checkOpenWrong(t, laid("%PDF-\n @x:xref "+entries+"trailer<</A 1/Prev @p:"+prev+">> @y:xref trailer<</Prev {x}>>startxref {y} 7"), e)
		}
	}
}

// A Prev that is no whole number: no older table is there.
func TestOpenPrevNone(t *testing.T) {
	for _, prev := range []string{"-1", "-{x}", "-{y}", "{y}.0", "{y}.", ".5", "0.0", "-0.0", "-5.5", "({y})", "/{y}", "/A", "[{y}]", "{y} 0 R", "1 0 R", "true", "false", "null", "<</Prev {y}>>", "<<>>"} {
		s := laid("%PDF-\n@1:1 0 obj(a)endobj @y:xref 1 1 {1} 0 n trailer<<>>@x:xref trailer<</Prev " + prev + ">>startxref {x}")
		f, e := Open([]byte(s))
		if len(f.L) != 0 || f.Trailer.Kind != api.Dict || e != api.OK {
			t.Errorf("%q: %s %v", s, cut(f), e)
		}
		// The last one of two counts.
		s = laid("%PDF-\n@1:1 0 obj(a)endobj @y:xref 1 1 {1} 0 n trailer<<>>@x:xref trailer<</Prev " + prev + "/Prev {y}>>startxref {x}")
		f, e = Open([]byte(s))
		if len(f.L) != 1 || e != api.OK {
			t.Errorf("%q: %s %v", s, cut(f), e)
		}
	}
	for _, prev := range []string{"{y}", "+{y}", "0{y}", "+000{y}"} {
		s := laid("%PDF-\n@1:1 0 obj(a)endobj @y:xref 1 1 {1} 0 n trailer<<>>@x:xref trailer<</Prev " + prev + ">>startxref {x}")
		if f, e := Open([]byte(s)); len(f.L) != 1 || e != api.OK {
			t.Errorf("%q: %s %v", s, cut(f), e)
		}
	}
	// Other keys.
	checkOpen(t, laid("%PDF-\n@x:xref trailer<</prev 2147483/XRefStm 2147483/A<</Prev 2147483>>>>startxref {x}"), file("<</prev 2147483/XRefStm 2147483/A<</Prev 2147483>>>>"), api.OK)
}

// Where an entry tells that its object stands.
func TestOpenOff(t *testing.T) {
	for off, e := range map[string]api.Errno{
		"{end}": api.ErrShort, "{end+1}": api.ErrRange, "{end+2}": api.ErrRange, "2147483": api.ErrRange, "{end-1}": api.ErrForm, "0": api.ErrForm, "{1+1}": api.ErrForm, "{1-1}": api.ErrForm, "{x}": api.ErrForm,
	} {
		checkOpenWrong(t, laid("%PDF-\n)@1:1 0 obj(a)endobj @x:xref 1 1 "+off+" 0 n trailer<<>>startxref {x} )"), e)
		checkOpen(t, laid("%PDF-\n)@1:1 0 obj(a)endobj @x:xref 1 1 "+off+" 0 f trailer<<>>startxref {x} )"), file("<<>>"), api.OK)
	}
	// At 0 the mark is a comment.
	checkOpen(t, laid("%PDF-\n1 0 obj(a)endobj @x:xref 1 1 0 0 n trailer<<>>startxref {x}"), file("<<>>", one(1, 0, "(a)")), api.OK)
}

// An object there whose numbers are others than the entry's.
func TestOpenNumbers(t *testing.T) {
	for n := range 4 {
		for g := range 4 {
			s := laid(fmt.Sprintf("%%PDF-\n@1:2 1 obj(a)endobj @x:xref %d 1 {1} %d n trailer<<>>startxref {x}", n, g))
			if n == 2 && g == 1 {
				checkOpen(t, s, file("<<>>", one(2, 1, "(a)")), api.OK)
			} else {
				checkOpenWrong(t, s, api.ErrForm)
			}
		}
	}
	checkOpenWrong(t, laid("%PDF-\n@1:4097 0 obj(a)endobj @x:xref 1 1 {1} 0 n trailer<<>>startxref {x}"), api.ErrForm)
	checkOpenWrong(t, laid("%PDF-\n@1:1 0 obj(a)endobj @x:xref 1 2 {1} 0 n {1} 0 n trailer<<>>startxref {x}"), api.ErrForm)
	checkOpenWrong(t, laid("%PDF-\n@1:1 0 obj(a)endobj @2:2 0 obj(b)endobj @x:xref 1 2 {2} 0 n {1} 0 n trailer<<>>startxref {x}"), api.ErrForm)
}

// xref.Parse's errors, in the first table and in an older one.
func TestOpenTable(t *testing.T) {
	for s, e := range map[string]api.Errno{
		"x": api.ErrForm, "xref": api.ErrShort, "xref 0": api.ErrShort, "xref 0 1 5 0 x": api.ErrForm, "xref 4095 2": api.ErrLarge, "xref 0 -1": api.ErrForm, "xref 99999999": api.ErrRange, "xref trailer": api.ErrShort, "xref trailer 5 ": api.ErrForm, "xref trailer(": api.ErrShort, "xref trailer[": api.ErrShort, "xref )": api.ErrForm, "1 0 obj<</Type/XRef>>": api.ErrForm,
		"xref trailer" + strings.Repeat("[", 65): api.ErrDeep, "xref trailer[" + strings.Repeat("0 ", 1025): api.ErrLarge, "xref trailer<</A 99999999>>": api.ErrRange,
	} {
		// Ahead of what is wrong with an object of a younger table.
		for _, entries := range []string{"", "1 1 2147483 0 n ", "1 1 {x} 0 n "} {
			checkOpenWrong(t, laid("%PDF-\nstartxref {x} "+"@y:xref "+entries+"trailer<</Prev {x}>>@x:"+s), e)
			checkOpenWrong(t, laid("%PDF-\nstartxref {y} "+"@y:xref "+entries+"trailer<</Prev {x}>>@x:"+s), e)
		}
	}
}

// cos.Indirect's errors.
func TestOpenIndirect(t *testing.T) {
	for s, e := range map[string]api.Errno{
		"": api.ErrShort, "2": api.ErrShort, "2 0": api.ErrShort, "2 0 obj": api.ErrShort, "2 0 obj(a)": api.ErrShort, "2 0 obj(": api.ErrShort, "2 0 obj<</Length 5>>stream\nabcd": api.ErrShort, "2 0 obj[": api.ErrShort,
		"x": api.ErrForm, "2 0 R": api.ErrForm, "-2 0 obj(a)endobj": api.ErrForm, "2 0 obj endobj": api.ErrForm, "2 0 obj(a)endob": api.ErrForm, "2 0 obj(a)stream\n": api.ErrForm, "2 0 obj<<>>stream\nendstream endobj": api.ErrForm, "2 0 obj<</Length 1 0 R>>stream\nendstream endobj": api.ErrForm, ")": api.ErrForm,
		"99999999 0 obj": api.ErrRange, "2 0 obj 99999999": api.ErrRange, "2 0 obj" + strings.Repeat("[", 65): api.ErrDeep, "2 0 obj[" + strings.Repeat("0 ", 1025): api.ErrLarge,
	} {
		checkOpenWrong(t, laid("%PDF-\n@x:xref 2 1 {2} 0 n trailer<<>>startxref {x} @2:"+s), e)
		// Ahead of the numbers that are others.
		checkOpenWrong(t, laid("%PDF-\n@x:xref 3 1 {2} 0 n trailer<<>>startxref {x} @2:"+s), e)
		checkOpenWrong(t, laid("%PDF-\n@x:xref 2 1 {2} 1 n trailer<<>>startxref {x} @2:"+s), e)
		// The least number's error is the first one, whatever table tells it, and in whatever order.
		checkOpenWrong(t, laid("%PDF-\n@1:1 0 obj 7 endobj @x:xref 2 2 {2} 0 n {end+1} 0 n 1 1 {1} 0 n trailer<<>>startxref {x} @2:"+s), e)
		checkOpenWrong(t, laid("%PDF-\n@1:1 0 obj 7 endobj @y:xref 3 1 2147483 0 n 2 1 {2} 0 n trailer<<>>@x:xref 4 1 2147483 0 n 3 1 {1} 0 n trailer<</Prev {y}>>startxref {x} @2:"+s), e)
		checkOpenWrong(t, laid("%PDF-\n@x:xref 2 1 {2} 0 n 1 1 {end+1} 0 n trailer<<>>startxref {x} @2:"+s), api.ErrRange)
		checkOpenWrong(t, laid("%PDF-\n@4:4 0 obj 7 endobj @x:xref 2 1 {2} 0 n 1 1 {4} 0 n trailer<<>>startxref {x} @2:"+s), api.ErrForm)
		// Of one that isn't used nothing is asked.
		checkOpen(t, laid("%PDF-\n@1:1 0 obj 7 endobj @x:xref 1 2 {1} 0 n {2} 0 f trailer<<>>startxref {x} @2:"+s), file("<<>>", one(1, 0, "7")), api.OK)
	}
}

// All objects that there may be, in any order, by rising numbers.
func TestOpenMany(t *testing.T) {
	r := rand.New(rand.NewSource(3))
	for _, n := range []int{1, 2, 100, 4096} {
		text := "%PDF-\n"
		places := make([]int, n)
		l := make([]Numbered, n)
		for _, i := range r.Perm(n) {
			places[i] = len(text)
			l[i] = one(i, i%5, fmt.Sprintf("[%d %d 0 R]", i, n-i))
			text += fmt.Sprintf("%d %d obj[%d %d 0 R]endobj\n", i, i%5, i, n-i)
		}
		forward := fmt.Sprintf("xref 0 %d", n)
		for i, at := range places {
			forward += fmt.Sprintf(" %d %d n", at, i%5)
		}
		parts := "xref"
		for _, i := range r.Perm(n) {
			parts += fmt.Sprintf(" %d 1 %d %d n", i, places[i], i%5)
		}
		for _, table := range []string{forward, parts} {
			checkOpen(t, fmt.Sprintf("%s%s trailer<</A 1>>startxref %d", text, table, len(text)), File{L: l, Trailer: obj("<</A 1>>")}, api.OK)
		}
	}
}

// What is answered shares no list: one object may be changed, and the others stay.
func TestOpenNew(t *testing.T) {
	s := laid("%PDF-\n@1:1 0 obj[1[2]]endobj @2:2 0 obj<</A[1]>>endobj @x:xref 1 2 {1} 0 n {2} 0 n trailer<</A[1]/B<</C 1>>>>startxref {x}")
	f, _ := Open([]byte(s))
	g, _ := Open([]byte(s))
	before := deepFile(g)
	f.L[0].O.L[1].L[0] = obj("9")
	f.L[0].O.L[0] = obj("9")
	f.Trailer.D[0].V.L[0] = obj("9")
	f.Trailer.D[1].V.D[0].V = obj("9")
	if !same(g, before) || !sameObj(f.L[1].O, before.L[1].O) {
		t.Error(f, g)
	}
	f.L[0], f.L[1].O.D[0].Key = Numbered{}, "X"
	if !same(g, before) {
		t.Error(g)
	}
}
