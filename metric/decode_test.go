package metric

import (
	"fmt"
	"strings"
	"testing"
	"unicode/utf8"
)

// P13.4

func TestDecodeSeen(t *testing.T) {
	for s, want := range map[string]string{
		"":                     "",
		"a":                    "a",
		"Hello, world!":        "Hello, world!",
		"\t\n\r":               "\t\n\r",
		"\x00\x01\x08\x0b\x0c": "\ufffd\ufffd\ufffd\ufffd\ufffd",
		"\x0e\x1b\x1f":         "\ufffd\ufffd\ufffd",
		" ~":                   " ~",
		"\x7f":                 "\ufffd",
		"\x80\x92\x9f\xa0":     "\ufffd\ufffd\ufffd\ufffd",
		"\xa1":                 "¡",
		"\xac\xad\xae":         "¬\ufffd®",
		"\xe4\xf6\xfc\xdf":     "äöüß",
		"\xfe":                 "þ",
		"\xff":                 "ÿ",
		"\xff\xfe":             "ÿþ",
		"\xff\xfea\x00":        "ÿþa\ufffd",
		"\xfe\xfe\xff":         "þþÿ",
		"a\xfe\xff":            "aþÿ",
		" \xfe\xff\x00a":       " þÿ\ufffda",
		// UTF-8 is bytes as others are.
		"\xc3\xa4":     "Ã¤",
		"\xe2\x82\xac": "â\ufffd¬",
		"\xef\xbb\xbf": "ï»¿",
		// Pairs.
		"\xfe\xff":                         "",
		"\xfe\xff\x00a":                    "a",
		"\xfe\xff\x20\xac":                 "€",
		"\xfe\xff\x00a\x00b":               "ab",
		"\xfe\xff\x00\x00":                 "\x00",
		"\xfe\xff\x00\xad\x00\x7f\x00\x9f": "\u00ad\u007f\u009f",
		"\xfe\xff\xff\xfe\xff\xff":         "\ufffe\uffff",
		"\xfe\xff\xfe\xff\x00a":            "\ufeffa",
		"\xfe\xff\xff\xfd":                 "\ufffd",
		"\xfe\xff\xd7\xff":                 "\ud7ff",
		"\xfe\xff\xe0\x00":                 "\ue000",
		// Two of which are one character.
		"\xfe\xff\xd8\x3d\xde\x00":           "😀",
		"\xfe\xff\xd8\x00\xdc\x00":           "\U00010000",
		"\xfe\xff\xdb\xff\xdf\xff":           "\U0010ffff",
		"\xfe\xff\xd8\x00\xdf\xff":           "\U000103ff",
		"\xfe\xff\xdb\xff\xdc\x00":           "\U0010fc00",
		"\xfe\xff\xd8\x01\xdc\x00":           "\U00010400",
		"\xfe\xff\x00a\xd8\x3d\xde\x00\x00b": "a😀b",
		// Those that are none.
		"\xfe\xff\xd8\x00":                                 "\ufffd",
		"\xfe\xff\xdb\xff":                                 "\ufffd",
		"\xfe\xff\xdc\x00":                                 "\ufffd",
		"\xfe\xff\xdf\xff":                                 "\ufffd",
		"\xfe\xff\xd8\x00\x00a":                            "\ufffda",
		"\xfe\xff\xdc\x00\x00a":                            "\ufffda",
		"\xfe\xff\xdc\x00\xd8\x00":                         "\ufffd\ufffd",
		"\xfe\xff\xdc\x00\xd8\x00\xdc\x00":                 "\ufffd\U00010000",
		"\xfe\xff\xd8\x00\xd8\x00":                         "\ufffd\ufffd",
		"\xfe\xff\xd8\x00\xd8\x00\xdc\x00":                 "\ufffd\U00010000",
		"\xfe\xff\xd8\x00\xdc\x00\xdc\x00":                 "\U00010000\ufffd",
		"\xfe\xff\xdc\x00\xdc\x00":                         "\ufffd\ufffd",
		"\xfe\xff\xd8\x00\xdb\xff":                         "\ufffd\ufffd",
		"\xfe\xff\xd8\x00\xe0\x00":                         "\ufffd\ue000",
		"\xfe\xff\xd8\x00\xd7\xff":                         "\ufffd\ud7ff",
		"\xfe\xff\x00a\xd8\x3d":                            "a\ufffd",
		"\xfe\xff\xd8\x00\xd8\x00\xd8\x00\xd8\x00\xdc\x00": "\ufffd\ufffd\ufffd\U00010000",
		// A byte left over.
		"\xfe\xff\x00":                 "\ufffd",
		"\xfe\xffa":                    "\ufffd",
		"\xfe\xff\x00ab":               "a\ufffd",
		"\xfe\xff\xd8":                 "\ufffd",
		"\xfe\xff\xd8\x00\xdc":         "\ufffd\ufffd",
		"\xfe\xff\xd8\x00\xdc\x00\xdc": "\U00010000\ufffd",
		"\xfe\xff\xdc\x00\x00":         "\ufffd\ufffd",
	} {
		checkDecode(t, s, want)
		checkDecode(t, s, wantDecode(s))
	}
}

func TestDecodeBytes(t *testing.T) {
	for b := range 256 {
		s := string([]byte{byte(b)})
		want := "\ufffd"
		if b == 9 || b == 10 || b == 13 || b >= 32 && b <= 126 || b >= 161 && b <= 255 && b != 173 {
			want = string(rune(b))
		}
		checkDecode(t, s, want)
		checkDecode(t, s+s, want+want)
		checkDecode(t, "a"+s+"b", "a"+want+"b")
		for other := range 256 {
			both := s + string([]byte{byte(other)})
			checkDecode(t, both, wantDecode(both))
			checkDecode(t, both+"\x00a", wantDecode(both+"\x00a"))
			checkDecode(t, both+"\xd8", wantDecode(both+"\xd8"))
		}
	}
}

// pairOf is a number as two bytes.
func pairOf(n int) string { return string([]byte{byte(n / 256), byte(n % 256)}) }

// Each number of a pair, alone, twice, ahead of others and behind them.
func TestDecodePairs(t *testing.T) {
	const mark = "\xfe\xff"
	for n := range 65536 {
		s := pairOf(n)
		want := string(rune(n))
		if n >= 55296 && n <= 57343 {
			want = "\ufffd"
		}
		checkDecode(t, mark+s, want)
		checkDecode(t, mark+s+s, want+want)
		checkDecode(t, mark+s+"\x00", want+"\ufffd")
		checkDecode(t, mark+s+"\xdc", want+"\ufffd")
		checkDecode(t, mark+"\x00a"+s+"\x00b", "a"+want+"b")
		high, low := "\ufffd"+want, want+"\ufffd"
		if n >= 56320 && n <= 57343 {
			high = string(rune(65536 + n - 56320))
		}
		if n >= 55296 && n <= 56319 {
			low = string(rune(65536 + (n-55296)*1024))
		}
		checkDecode(t, mark+"\xd8\x00"+s, high)
		checkDecode(t, mark+s+"\xdc\x00", low)
	}
}

// Each character above the pairs.
func TestDecodeAbove(t *testing.T) {
	for n := 65536; n <= 1114111; n++ {
		high, low := 55296+(n-65536)/1024, 56320+(n-65536)%1024
		s := "\xfe\xff" + pairOf(high) + pairOf(low)
		if u := Decode(s); u != string(rune(n)) {
			t.Fatalf("Decode(%q): %q, not %q", s, u, string(rune(n)))
		}
		if n%37 == 0 {
			checkDecode(t, s+"\x00a", string(rune(n))+"a")
			checkDecode(t, s+pairOf(low)+pairOf(high), string(rune(n))+"\ufffd\ufffd")
		}
	}
}

// What is told is UTF-8, whatever the bytes are; of each byte, or pair, one character.
func TestDecodeIsText(t *testing.T) {
	for _, s := range []string{everyByte(), "\xfe\xff" + everyByte(), "\xfe\xff" + everyByte()[1:], strings.Repeat("\xd8\x00\xdc", 99), "\xfe\xff" + strings.Repeat("\xd8\x00\xdc", 99)} {
		u := Decode(s)
		if !utf8.ValidString(u) {
			t.Errorf("Decode(%q) is no text: %q", s, u)
		}
		checkDecode(t, s, wantDecode(s))
	}
	if n := utf8.RuneCountInString(Decode(everyByte())); n != 256 {
		t.Error(n)
	}
	long := strings.Repeat("\x00a\xd8\x3d\xde\x00", 100000)
	checkDecode(t, "\xfe\xff"+long, strings.Repeat("a😀", 100000))
	if u := Decode(long); utf8.RuneCountInString(u) != len(long) {
		t.Error(fmt.Sprintf("%.100q", u))
	}
}
