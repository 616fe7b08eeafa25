package metric

import (
	"strings"
	"testing"
	"unicode/utf8"
)

// P13.5 and P13.6

func TestBytesSeen(t *testing.T) {
	for u, want := range map[string]string{
		"":              "",
		"a":             "a",
		"Hello, world!": "Hello, world!",
		"\t\n\r":        "\t\n\r",
		" ~":            " ~",
		"äöüß":          "\xe4\xf6\xfc\xdf",
		"¡":             "\xa1",
		"¬®":            "\xac\xae",
		"þ":             "\xfe",
		"ÿ":             "\xff",
		"þÿ":            "\xfe\xff",
		"þÿa":           "\xfe\xffa",
		"ÿþ":            "\xff\xfe",
		"aäb":           "a\xe4b",
	} {
		checkBytes(t, u, want, true)
	}
	for _, u := range []string{"\x00", "\x1f", "\v", "\f", "\x7f", "\u0080", "\u009f", "\u00a0", "\u00ad", "Ā", "ſ", "€", "中", "\ud7ff", "\ue000", "\ufeff", "\ufffd", "\ufffe", "\uffff", "😀", "\U00010041", "\U0010ffff", "\u0141", "\u2041", "\U00010000",
		"a€", "€a", "aaaa\x00", "\x00aaaa", "a\u00adb", "äö€ü", "a\u00a0b",
		// None of UTF-8.
		"\xff", "\xfe", "\xfe\xff", "\xe4", "\x80", "\xc3", "a\xff", "\xffa", "\xe2\x82", "\xc0\x80", "\xc1\xa1", "\xe0\x83\xa4", "\xed\xa0\x80", "\xed\xa0\xbd\xed\xb8\x80", "\xf4\x90\x80\x80", "\xf8\x88\x80\x80\x80", "ä\xe4", "\xa4", "abc\xc3"} {
		checkBytes(t, u, "", false)
	}
}

// Each character, alone and among others.
func TestBytesEach(t *testing.T) {
	for n := range 0x110000 {
		u := string(rune(n))
		alone := n == 9 || n == 10 || n == 13 || n >= 32 && n <= 126 || n >= 161 && n <= 255 && n != 173
		s, ok := Bytes(u)
		if ok != alone || ok && s != string([]byte{byte(n)}) || !ok && s != "" {
			t.Fatalf("Bytes(%q): %q %t", u, s, ok)
		}
		if n < 70000 && n%11 == 0 || n < 600 {
			want := ""
			if alone {
				want = "a" + s + "\xe4"
			}
			checkBytes(t, "a"+u+"ä", want, alone)
			checkBytes(t, u+"\xe4", "", false)
			checkBytes(t, u+"€", "", false)
		}
	}
}

func TestEncodeSeen(t *testing.T) {
	for u, want := range map[string]string{
		"":           "",
		"a":          "a",
		"A b\n":      "A b\n",
		"äöü":        "\xe4\xf6\xfc",
		"þ":          "\xfe",
		"ÿ":          "\xff",
		"ÿþ":         "\xff\xfe",
		"þaÿ":        "\xfea\xff",
		"aþÿ":        "a\xfe\xff",
		"þþÿ":        "\xfe\xfe\xff",
		"€":          "\xfe\xff\x20\xac",
		"a€":         "\xfe\xff\x00a\x20\xac",
		"ä€ä":        "\xfe\xff\x00\xe4\x20\xac\x00\xe4",
		"\x00":       "\xfe\xff\x00\x00",
		"\x7f":       "\xfe\xff\x00\x7f",
		"\u00a0":     "\xfe\xff\x00\xa0",
		"\u00ad":     "\xfe\xff\x00\xad",
		"a\x00b":     "\xfe\xff\x00a\x00\x00\x00b",
		"Ā":          "\xfe\xff\x01\x00",
		"\ud7ff":     "\xfe\xff\xd7\xff",
		"\ue000":     "\xfe\xff\xe0\x00",
		"\ufeff":     "\xfe\xff\xfe\xff",
		"\ufffd":     "\xfe\xff\xff\xfd",
		"\uffff":     "\xfe\xff\xff\xff",
		"\U00010000": "\xfe\xff\xd8\x00\xdc\x00",
		"\U000103ff": "\xfe\xff\xd8\x00\xdf\xff",
		"\U00010400": "\xfe\xff\xd8\x01\xdc\x00",
		"😀":          "\xfe\xff\xd8\x3d\xde\x00",
		"a😀b":        "\xfe\xff\x00a\xd8\x3d\xde\x00\x00b",
		"\U0010ffff": "\xfe\xff\xdb\xff\xdf\xff",
		// Bytes might tell these, but would be read as pairs.
		"þÿ":     "\xfe\xff\x00\xfe\x00\xff",
		"þÿa":    "\xfe\xff\x00\xfe\x00\xff\x00a",
		"þÿþÿ":   "\xfe\xff\x00\xfe\x00\xff\x00\xfe\x00\xff",
		"þÿ€":    "\xfe\xff\x00\xfe\x00\xff\x20\xac",
		"þÿ\x00": "\xfe\xff\x00\xfe\x00\xff\x00\x00",
		// None of UTF-8.
		"\xff":                     "\xfe\xff\xff\xfd",
		"\xfe\xff":                 "\xfe\xff\xff\xfd\xff\xfd",
		"\xfe\xff\x00a":            "\xfe\xff\xff\xfd\xff\xfd\x00\x00\x00a",
		"a\xe4":                    "\xfe\xff\x00a\xff\xfd",
		"\xe2\x82":                 "\xfe\xff\xff\xfd\xff\xfd",
		"\xed\xa0\x80":             "\xfe\xff\xff\xfd\xff\xfd\xff\xfd",
		"\xed\xa0\xbd\xed\xb8\x80": "\xfe\xff" + strings.Repeat("\xff\xfd", 6),
		"\xf4\x90\x80\x80":         "\xfe\xff" + strings.Repeat("\xff\xfd", 4),
		"\xc0\x80":                 "\xfe\xff\xff\xfd\xff\xfd",
		"\xe4\xf6":                 "\xfe\xff\xff\xfd\xff\xfd",
	} {
		checkEncode(t, u, want)
		checkEncode(t, u, wantEncode(u))
		checkAgain(t, u)
	}
}

// Each character, as UTF-8, is decoded to itself, alone and behind others.
func TestAgainEach(t *testing.T) {
	for n := range 0x110000 {
		u := string(rune(n))
		if again := Decode(Encode(u)); again != u {
			t.Fatalf("%U: %q", n, again)
		}
		if n < 600 || n%101 == 0 {
			for _, more := range []string{u + u, "a" + u, u + "a", u + "€", "þÿ" + u, "þ" + u, u + "ÿ", u + "😀", "😀" + u} {
				checkAgain(t, more)
				checkEncode(t, more, wantEncode(more))
				if Decode(Encode(more)) != more {
					t.Errorf("%q", more)
				}
			}
		}
	}
}

// All texts of up to three of some characters.
func TestAgainShort(t *testing.T) {
	parts := []string{"", "\x00", "\t", "a", "~", "\x7f", "\u00a0", "¡", "\u00ad", "þ", "ÿ", "Ā", "\ud7ff", "\ue000", "\ufeff", "\ufffd", "\uffff", "\U00010000", "😀", "\U0010ffff", "\xfe", "\xff", "\xc3", "\xd8", "\xdc", "\xed\xa0\x80"}
	for _, a := range parts {
		for _, b := range parts {
			for _, c := range parts {
				checkText(t, a+b+c)
				if u := a + b + c; utf8.ValidString(u) && Decode(Encode(u)) != u {
					t.Errorf("%q", u)
				}
			}
		}
	}
}

// What a byte tells is told by that byte again.
func TestBytesOfDecode(t *testing.T) {
	for b := range 256 {
		s := string([]byte{byte(b)})
		if u := Decode(s); u != "\ufffd" {
			checkBytes(t, u, s, true)
			checkEncode(t, u, s)
		}
	}
}
