package display

import (
	"testing"

	"inkstand/api"
)

// P12.1: text.

// at is what an item of (a) is told as at a place, and at another one.
func at(x, y string) string {
	if x == "0" && y == "0" {
		return "T(a)"
	}
	return "T(a) M1,0,0,1," + x + "," + y
}

func TestWhereTextStands(t *testing.T) {
	// Behind each: where text stands, and where it stands when a line was begun one to the right and two up.
	for _, x := range []struct{ b, x, y string }{
		{"", "0", "0"},
		{"BT", "0", "0"},
		{"5 6 Td", "5", "6"},
		{"5 6 Td 1 2 Td", "6", "8"},
		{"-5 .5 Td", "-5", "0.5"},
		{"5 6 TD", "5", "6"},
		{"1 0 0 1 5 6 Tm", "5", "6"},
		{"1 0 0 1 5 6 Tm 1 2 Td", "6", "8"},
		{"7 8 Td 1 0 0 1 5 6 Tm", "5", "6"},
		{"5 6 Td BT", "0", "0"},
		{"BT 5 6 Td ET", "5", "6"},
		{"BT 5 6 Td ET BT ET", "0", "0"},
		{"T*", "0", "0"},
		{"3 TL", "0", "0"},
		{"3 TL T*", "0", "-3"},
		{"3 TL T* T* T*", "0", "-9"},
		{"-3 TL T*", "0", "3"},
		{"0 TL 5 6 Td T*", "5", "6"},
		{"3 TL 5 6 Td T*", "5", "3"},
		{"3 TL 4 TL T*", "0", "-4"},
		{"0 -3 TD T*", "0", "-6"},
		{"5 -3 TD T* T*", "5", "-9"},
		{"5 3 TD T*", "5", "6"},
		{"5 3 TD 1 0 TD T*", "6", "3"},
		{"9 TL 5 -3 TD 1 1 Td T*", "6", "-5"},
		{"9 TL 5 -3 Td T*", "5", "-12"},
		{"3 TL BT T*", "0", "-3"},
		{"3 TL 1 0 0 1 5 6 Tm T*", "5", "3"},
		{"2147483.648 TL T*", "0", "-2147483.648"},
		{"-2147483.648 TL T*", "0", "2147483.648"},
		{"0 2147483.648 TD", "0", "2147483.648"},
	} {
		draws(t, x.b+" (a) Tj", at(x.x, x.y))
		draws(t, x.b+" [(a)] TJ", at(x.x, x.y))
		// What is shown moves nothing.
		draws(t, x.b+" (a) Tj (a) Tj [(a)-500(bcd)] TJ (a) Tj", at(x.x, x.y)+" | "+at(x.x, x.y)+" | "+"T(abcd)"+at(x.x, x.y)[4:]+" | "+at(x.x, x.y))
		checkRun(t, file(), none, x.b+" (a) Tj 1 2 Td (b) Tj T* (c) ' (d) Tj")
	}
}

// Td is ahead of the line's matrix, T* as well, and the text's is the line's then.
func TestByLine(t *testing.T) {
	const tm = "2 3 5 7 11 13 Tm "
	draws(t, tm+"(a) Tj", "T(a) M2,3,5,7,11,13")
	draws(t, tm+"1 0 Td (a) Tj", "T(a) M2,3,5,7,13,16")
	draws(t, tm+"0 1 Td (a) Tj", "T(a) M2,3,5,7,16,20")
	draws(t, tm+"1 1 Td 1 1 Td (a) Tj", "T(a) M2,3,5,7,25,33")
	draws(t, tm+"1 1 TD T* (a) Tj", "T(a) M2,3,5,7,23,30")
	draws(t, tm+"2 TL (a) ' (b) Tj", "T(a) M2,3,5,7,1,-1 | T(b) M2,3,5,7,1,-1")
	draws(t, "1 2 Td "+tm+"(a) Tj BT (b) Tj", "T(a) M2,3,5,7,11,13 | T(b)")
}

// An item's matrix is the text's, and M behind it.
func TestByMatrix(t *testing.T) {
	draws(t, "2 0 0 2 0 0 cm 1 0 0 1 5 7 Tm (a) Tj", "T(a) M2,0,0,2,10,14")
	draws(t, "1 0 0 1 5 7 cm 2 0 0 2 0 0 Tm (a) Tj", "T(a) M2,0,0,2,5,7")
	draws(t, "7 8 9 10 11 12 Tm 1 2 3 4 5 6 cm (a) Tj", "T(a) M31,46,39,58,52,76")
	draws(t, "1 2 3 4 5 6 cm 7 8 9 10 11 12 Tm (a) Tj", "T(a) M31,46,39,58,52,76")
	draws(t, "7 8 9 10 11 12 cm 1 2 3 4 5 6 Tm (a) Tj", "T(a) M25,28,57,64,100,112")
	draws(t, "2 0 0 2 0 0 cm 3 TL BT 5 6 Td (a) ' [(b)] TJ", "T(a) M2,0,0,2,10,6 | T(b) M2,0,0,2,10,6")
	// BT leaves M.
	draws(t, "2 0 0 2 0 0 cm BT (a) Tj", "T(a) M2,0,0,2,0,0")
}

func TestFont(t *testing.T) {
	draws(t, "/F 12 Tf (a) Tj", "T(a) /F 12")
	draws(t, "/F 12 Tf /G -.5 Tf (a) Tj", "T(a) /G -0.5")
	draws(t, "/F 0 Tf (a) Tj", "T(a) /F 0")
	draws(t, "/ 5 Tf (a) Tj", "T(a) / 5")
	draws(t, "/A#20B 5 Tf (a) Tj (b) ' [(c)] TJ", "T(a) /A B 5 | T(b) /A B 5 | T(c) /A B 5")
	// BT and ET leave it, and the leading.
	draws(t, "/F 12 Tf 3 TL BT (a) ' ET (b) '", "T(a) M1,0,0,1,0,-3 /F 12 | T(b) M1,0,0,1,0,-6 /F 12")
	// It needs no resources.
	checkDraws(t, file(), "<</Font<</F 7>>>>", "/F 12 Tf (a) Tj", "T(a) /F 12", api.OK)
	checkDraws(t, file("1 0 R"), "<</Font 1 0 R>>", "/F 12 Tf (a) Tj", "T(a) /F 12", api.OK)
	for _, b := range []string{"Tf", "/F Tf", "12 Tf", "12 /F Tf", "(F) 12 Tf", "/F (12) Tf", "/F /G Tf", "/F /G 12 Tf", "null 12 Tf", "/F null Tf", "[/F 12] Tf"} {
		wrong(t, b, api.ErrForm)
	}
}

func TestShown(t *testing.T) {
	for b, want := range map[string]string{
		"() Tj":                 "",
		"(a b) Tj":              "a b",
		"<00FF> Tj":             "\x00\xff",
		"() '":                  "",
		"(ab) '":                "ab",
		"[] TJ":                 "",
		"[()] TJ":               "",
		"[(a)] TJ":              "a",
		"[(a)(b)<63>] TJ":       "abc",
		"[(a)-250(b) 10 .5] TJ": "ab",
		"[1 2 3] TJ":            "",
		"[1(b)] TJ":             "b",
		// What is no Str is let be, whatever it is, and whatever stands in it.
		"[null(a)true/N(b)[(c)]<</A(d)>>1 0 R(e)] TJ": "abe",
	} {
		draws(t, b, "T("+want+")")
		l, e := Run(file("(x)"), none, []byte(b))
		if e != api.OK || len(l) != 1 || l[0].S != want || l[0].Kind != Show || l[0].Path != nil {
			t.Errorf("%q: %v %v", b, l, e)
		}
	}
	for _, b := range []string{"Tj", "'", "TJ", "[(a)] Tj", "/a Tj", "1 Tj", "null Tj", "[(a)] '", "/a '", "1 (a) '", "1 (a) Tj", "(a) TJ", "/a TJ", "1 [(a)] TJ", "<</A(a)>> TJ", "null TJ", "true TJ"} {
		wrong(t, b, api.ErrForm)
	}
	// A path, and what is painted of it, stays.
	draws(t, "1 2 m BT (a) Tj ET 3 4 l S", "T(a) | S[m1,2 l3,4]")
}

func TestTextTooGreat(t *testing.T) {
	for _, b := range []string{
		"2000000 0 Td 2000000 0 Td", "0 -2000000 Td 0 -2000000 Td", "2000000 0 0 1 0 0 Tm 2 0 Td", "0 2000000 TD 0 2000000 TD", "2000000 TL T* T*", "2000000 TL T* () '", "-2000000 TL () ' () '",
		"2000000 0 0 1 0 0 cm 2 0 0 1 0 0 Tm () Tj", "2000000 0 0 1 0 0 cm 2 0 0 1 0 0 Tm [] TJ", "2000000 0 0 1 0 0 cm 2 0 0 1 0 0 Tm () '", "1 0 0 1 2000000 0 cm 2000000 0 Td () Tj",
	} {
		wrong(t, b, api.ErrRange)
	}
	for b, want := range map[string]string{
		"2000000 0 0 1 0 0 cm 2 0 0 1 0 0 Tm":        "",
		"2000000 0 0 1 0 0 cm 2 0 0 1 0 0 Tm BT":     "",
		"2000000 0 Td BT 2000000 0 Td BT":            "",
		"1 0 0 1 2000000 0 cm 147483.648 0 Td () Tj": "T() M1,0,0,1,2147483.648,0",
	} {
		draws(t, b, want)
	}
}
