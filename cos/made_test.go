package cos

import (
	"math/rand"
	"strings"
	"testing"

	"inkstand/api"
)

// Made texts: what is answered is held against the document's words (want_test.go).

func checkBoth(t *testing.T, s string, at int) {
	t.Helper()
	o, to, e := wantParse(s, at)
	checkParse(t, s, at, o, to, e)
	if e == api.OK {
		checkAgain(t, s, at)
	}
	n, g, o, to, e := wantIndirect(s, at)
	checkIndirect(t, s, at, n, g, o, to, e)
}

// someText is of some pieces, with white between some of them.
func someText(r *rand.Rand, pieces []string) string {
	out := ""
	for range r.Intn(14) {
		out += pieces[r.Intn(len(pieces))]
		if r.Intn(3) > 0 {
			out += " "
		}
	}
	return out
}

func allPieces() []string {
	return []string{"[", "]", "<<", ">>", "/A", "/B", "/Length", "/#41", "1", "0", "2", "-1", "1.0", "1.5", "99999999", "R", "null", "true", "false", "x", "obj", "endobj", "stream", "endstream", "\n", "\r", "\r\n", "(a)", "<41>", "(", ")", ">", "%", "{", "[[]]", "1 0 R", "1 0 obj", "<</Length 2>>", "stream\nab", "\nendstream endobj"}
}

// Each text of a few tokens.
func TestShortTexts(t *testing.T) {
	few := []string{"[", "]", "<<", ">>", "/A", "1", "0", "R", "null", "true", "(a)", "-1", "1.0", "x", ")"}
	texts := []string{""}
	for from := 0; from < len(texts); from++ {
		s := texts[from]
		checkBoth(t, s, 0)
		checkBoth(t, "["+s, 0)
		checkBoth(t, "<<"+s, 0)
		checkBoth(t, "<</A 1/B[2]"+s+">>", 0)
		checkBoth(t, "1 0 obj "+s+"endobj", 0)
		if strings.Count(s, " ") < 4 {
			for _, piece := range few {
				texts = append(texts, s+piece+" ")
			}
		}
	}
}

func TestManyTexts(t *testing.T) {
	r := rand.New(rand.NewSource(1))
	for range 15000 {
		s := someText(r, allPieces())
		for _, at := range []int{0, r.Intn(len(s) + 1), len(s), -1, len(s) + 1} {
			checkBoth(t, s, at)
		}
		checkBoth(t, "<<"+s+">>", 0)
		checkBoth(t, "["+s+"]", 0)
		checkBoth(t, "1 0 obj"+s, 0)
		checkBoth(t, "1 0 obj<</Length "+s, 0)
		checkBoth(t, "1 0 obj<</Length 2>>stream"+s+"endstream endobj", 0)
	}
}

// Many entries of few keys, many of them null.
func TestManyEntries(t *testing.T) {
	r := rand.New(rand.NewSource(2))
	for range 6000 {
		s := "<<"
		for range r.Intn(12) {
			s += []string{"/A", "/B", "/C", "/#41"}[r.Intn(4)] + []string{" null", " 1", "(a)", " 1 0 R", "[null]", "<</A 1/A null>>"}[r.Intn(6)]
		}
		checkBoth(t, s+">>", 0)
	}
}
