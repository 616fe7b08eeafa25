package metric

import (
	"strings"
	"testing"
)

// P13.1

var standardNames = []string{"Helvetica", "Times-Roman", "Courier"}

// standard is a font that all know.
func standard(name string) Font {
	t, ok := Standard(name)
	if !ok {
		panic(name)
	}
	return t
}

// Each width, written out where it is easily seen.
func TestStandardSeen(t *testing.T) {
	for _, x := range []struct {
		b                         string
		helvetica, times, courier int
	}{
		{" ", 278, 250, 600}, {"!", 278, 333, 600}, {"'", 191, 180, 600}, {"0", 556, 500, 600}, {"9", 556, 500, 600}, {"?", 556, 444, 600}, {"@", 1015, 921, 600}, {"A", 667, 722, 600}, {"M", 833, 889, 600}, {"W", 944, 944, 600}, {"Z", 611, 611, 600}, {"_", 556, 500, 600}, {"`", 333, 333, 600}, {"a", 556, 444, 600}, {"i", 222, 278, 600}, {"m", 833, 778, 600}, {"z", 500, 444, 600}, {"{", 334, 480, 600}, {"|", 260, 200, 600}, {"}", 334, 480, 600}, {"~", 584, 541, 600},
		{"\x00", 556, 500, 600}, {"\n", 556, 500, 600}, {"\x1f", 556, 500, 600}, {"\x7f", 556, 500, 600}, {"\x80", 556, 500, 600}, {"\xa0", 556, 500, 600}, {"\xe4", 556, 500, 600}, {"\xff", 556, 500, 600},
	} {
		checkWidth(t, standard("Helvetica"), x.b, x.helvetica)
		checkWidth(t, standard("Times-Roman"), x.b, x.times)
		checkWidth(t, standard("Courier"), x.b, x.courier)
	}
}

func TestStandard(t *testing.T) {
	for _, name := range standardNames {
		want, _ := wantStandard(name)
		checkStandard(t, name, want, true)
		font := standard(name)
		for b := range 256 {
			checkWidth(t, font, string([]byte{byte(b)}), wantByte(name, b))
		}
	}
	if l := standard("Helvetica").Widths; len(l) != 95 {
		t.Error(len(l))
	}
	if l := standard("Times-Roman").Widths; len(l) != 95 {
		t.Error(len(l))
	}
	checkStandard(t, "Courier", Font{First: 32, Other: 600}, true)
}

func TestStandardOthers(t *testing.T) {
	others := []string{"", " ", "Helv", "Arial", "Times", "TimesRoman", "Times Roman", "Times_Roman", "Times-Bold", "Times-Italic", "Helvetica-Bold", "Helvetica-Oblique", "Courier-Bold", "CourierNew", "Symbol", "ZapfDingbats", "Hélvetica", "Ηelvetica", strings.Repeat("Courier", 1000), "HelveticaTimes-RomanCourier"}
	for _, name := range standardNames {
		others = append(others, name+" ", " "+name, name+"\x00", "/"+name, name+name, strings.ToLower(name), strings.ToUpper(name), name[1:], name[:len(name)-1])
		// A letter in the other case, another letter, and one letter less.
		for i := range len(name) {
			others = append(others, name[:i]+string([]byte{name[i] ^ 32})+name[i+1:], name[:i]+string([]byte{name[i] + 1})+name[i+1:], name[:i]+name[i+1:])
		}
	}
	for _, name := range others {
		if font, ok := Standard(name); ok || font.First != 0 || font.Widths != nil || font.Other != 0 {
			t.Errorf("Standard(%.80q): %s %t", name, cut(font), ok)
		}
		checkStandard(t, name, Font{}, false)
	}
}
