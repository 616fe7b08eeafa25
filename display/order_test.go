package display

import (
	"strings"
	"testing"

	"inkstand/api"
	"inkstand/store"
)

// Which error comes first (R2), and ops' errors.

func TestWrongTexts(t *testing.T) {
	for b, e := range map[string]api.Errno{
		"BI": api.ErrForm, "1": api.ErrForm, "]": api.ErrForm, ">>": api.ErrForm, ")": api.ErrForm, "{": api.ErrForm, "1a": api.ErrForm,
		"(a": api.ErrShort, "[": api.ErrShort, "<</A": api.ErrShort, "<4": api.ErrShort,
		"99999999 w": api.ErrRange, "2147483.649 w": api.ErrRange,
		strings.Repeat("[", 65):          api.ErrDeep,
		strings.Repeat("1 ", 65) + "x":   api.ErrLarge,
		strings.Repeat("q Q ", 32769):    api.ErrLarge,
		strings.Repeat("x ", 65537):      api.ErrLarge,
		"[" + strings.Repeat("1 ", 1025): api.ErrLarge,
	} {
		for _, ahead := range []string{"", "0 0 m f ", "(a) Tj "} {
			wrong(t, ahead+b, e)
			// All bytes are read ahead of what is drawn.
			wrong(t, "Q "+ahead+b, e)
			wrong(t, "2000000 0 Td 2000000 0 Td "+ahead+b, e)
			wrong(t, "/X Do w "+ahead+b, e)
		}
	}
	draws(t, strings.Repeat("q Q ", 32768), "")
	draws(t, strings.Repeat("1 ", 64)+"w 0 0 m S", "S[m0,0]")
}

// The first operator that is wrong ends all.
func TestFirstOperator(t *testing.T) {
	f := file(form("", "Q"), "2 0 R", form("/Matrix 7", ""), form("", "2000000 0 Td 2000000 0 Td"))
	const res = "<</XObject<</A 2 0 R/B 1 0 R/C 3 0 R/D 4 0 R>>>>"
	faults := map[string]api.Errno{"Q ": api.ErrForm, "w ": api.ErrForm, "/Y Do ": api.ErrType, "/A Do ": api.ErrCycle, "/B Do ": api.ErrForm, "/C Do ": api.ErrForm, "/D Do ": api.ErrRange, "2000000 0 Td 2000000 0 Td ": api.ErrRange, "2147483 0 1 0 re ": api.ErrRange}
	for first, e := range faults {
		for second := range faults {
			checkDraws(t, f, res, "(a) Tj "+first+second, "", e)
			checkDraws(t, f, res, first+"(a) Tj "+second, "", e)
		}
		checkDraws(t, f, res, first+strings.Repeat("q ", 65), "", e)
		if first != "Q " {
			checkDraws(t, f, res, strings.Repeat("q ", 64)+first+"q", "", e)
			checkDraws(t, f, res, strings.Repeat("q ", 65)+first, "", api.ErrDeep)
		}
	}
}

// Objects go ahead of all that an operator does.
func TestObjectsFirst(t *testing.T) {
	const far = "2000000 0 0 1 0 0 cm 2000000 0 0 1 0 0 Tm 2000000 TL T* "
	for _, b := range []string{"'", "/a '", "Tj", "[(a)] Tj", "TJ", "(a) TJ", "1 2 3 4 5 cm", "1 2 3 4 5 /a cm", "/a 2 3 4 5 6 cm", "5 m", "5 (a) l", "1 2 3 re", "1 Td", "2000000 /a Td", "2000000 TD", "Do", "1 Do"} {
		wrong(t, far+b, api.ErrForm)
	}
	for _, b := range []string{"() '", "() Tj", "[] TJ", "2 0 0 1 0 0 cm", "2 0 m", "2 0 l", "1 0 1 0 re", "2 0 Td", "2 0 TD", "T*"} {
		wrong(t, far+b, api.ErrRange)
	}
}

// A Form's errors, in the order in which it is told: each one ahead of those behind it.
func TestFormOrder(t *testing.T) {
	f := file("1 0 R")
	parts := []struct {
		right, wrong string
		e            api.Errno
	}{
		{"/Matrix[1 0 0 1 0 0]", "/Matrix 1 0 R", api.ErrCycle},
		{"", "/Matrix[2000000 0 0 2000000 0 0]", api.ErrRange},
		{"/BBox[0 0 2 2]", "/BBox 7", api.ErrForm},
		{"", "/BBox[0 0 2000000 0]", api.ErrRange},
		{"", "/Resources 1 0 R", api.ErrCycle},
		{"", "/DecodeParms 7", api.ErrFilter},
		{"", "/Filter 1 0 R", api.ErrCycle},
		{"", "stream (a", api.ErrShort},
		{"stream (a) Tj", "stream Q", api.ErrForm},
	}
	m := api.Matrix{2000, 0, 0, 2000, 0, 0}
	for set := range 1 << len(parts) {
		if set&3 == 3 || set&12 == 12 || set&384 == 384 {
			// Not both wrong at once.
			continue
		}
		entries, bytes := "", "stream (a) Tj"
		want := api.Errno(api.OK)
		for i, p := range parts {
			s := p.right
			if set>>i&1 == 1 {
				s = p.wrong
				if want == api.OK {
					want = p.e
				}
			} else if i == 0 && set&2 > 0 || i == 2 && set&8 > 0 {
				continue
			}
			if strings.HasPrefix(s, "stream") {
				if set>>i&1 == 1 {
					bytes = s
				}
				continue
			}
			entries += s
		}
		x := obj("<</Subtype/Form" + entries + ">>" + bytes)
		if l, e := Form(f, x, m); e != want || e != api.OK && l != nil {
			t.Errorf("%s: %v, not %v", cut(x), e, want)
		}
		checkForm(t, f, x, m)
		g := store.File{L: append(f.L[:1:1], store.Numbered{N: 2, O: x})}
		if e := checkRun(t, g, obj("<</XObject<</X 2 0 R>>>>"), "2 0 0 2 0 0 cm (b) Tj /X Do Q"); want != api.OK && e != want || want == api.OK && e != api.ErrForm {
			t.Errorf("%s: %v, not %v", cut(x), e, want)
		}
	}
}

// The one too many goes ahead of what is told behind it, and behind what is told ahead.
func TestTooManyOrder(t *testing.T) {
	many := strings.Repeat("/Y Do ", 32768)
	for entries, e := range map[string]api.Errno{"/Matrix 7": api.ErrForm, "/Matrix[2000000 0 0 1 0 0]": api.ErrRange, "/BBox 7": api.ErrForm, "/BBox[2000000 0 0 0]": api.ErrRange, "/BBox[0 0 0 0]/Resources 3 0 R": api.ErrLarge, "/BBox[0 0 0 0]/Filter/X": api.ErrLarge, "/BBox[0 0 0 0]": api.ErrLarge} {
		f := file("<</Subtype/Form"+entries+">>stream Q", form("", "() Tj"), "3 0 R")
		b := many + "2 0 0 2 0 0 cm /X Do w"
		if l, err := Run(f, obj("<</XObject<</X 1 0 R/Y 2 0 R>>>>"), []byte(b)); l != nil || err != e {
			t.Error(entries, len(l), err)
		}
	}
	f := file(form("/Resources<</XObject<</X 1 0 R/Y 2 0 R>>>>", many[:len(many)-6]+"0 0 m W /X Do"), form("", "() Tj"))
	// With its Clip and the other one these are as many as may be: what is met then is the Form that is being drawn.
	if l, e := Form(f, ref(1), unit); l != nil || e != api.ErrCycle {
		t.Error(len(l), e)
	}
	f.L[0].O.S = strings.Replace(f.L[0].O.S, "W", "W W", 1)
	if l, e := Form(f, ref(1), unit); l != nil || e != api.ErrLarge {
		t.Error(len(l), e)
	}
}
