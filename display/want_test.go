package display

import (
	"slices"
	"strings"

	"inkstand/api"
	"inkstand/fix"
	"inkstand/geom"
	"inkstand/ops"
	"inkstand/pages"
	"inkstand/store"
)

// P12.1 to P12.3: answers by the document's words, told another way than the program's: operators are told by fewer ones, and the first error ends all by a panic.

// kinds is what each operator's objects must be: n a Num, N a Name, s a Str, a an Arr.
var kinds = map[string]string{
	"q": "", "Q": "", "cm": "nnnnnn", "w": "n", "g": "n", "G": "n", "rg": "nnn", "RG": "nnn",
	"m": "nn", "l": "nn", "h": "", "re": "nnnn",
	"f": "", "F": "", "f*": "", "S": "", "B": "", "B*": "", "s": "", "b": "", "b*": "", "n": "", "W": "", "W*": "",
	"BT": "", "Tm": "nnnnnn", "Td": "nn", "TD": "nn", "TL": "n", "T*": "", "Tf": "Nn", "Tj": "s", "'": "s", "TJ": "a", "Do": "N",
}

// fits: do objects begin with those of some kinds?
func fits(l []api.Obj, kinds string) bool {
	letters := ""
	for _, o := range l {
		letters += string("--nNsa---"[o.Kind])
	}
	return strings.HasPrefix(letters, kinds)
}

// look is the state, as numbers by their names: each change makes a new one, so that old ones may be kept.
type look struct {
	l    map[string][]api.Fix
	font string
}

func (k look) with(key string, l ...api.Fix) look {
	out := look{l: map[string][]api.Fix{key: l}, font: k.font}
	for other, was := range k.l {
		if other != key {
			out.l[other] = was
		}
	}
	return out
}

func (k look) matrix(key string) api.Matrix { return api.Matrix(k.l[key]) }

func (k look) colour(key string) [3]api.Fix { return [3]api.Fix(k.l[key]) }

// firstLook is the one with which all begins.
func firstLook(m api.Matrix) look {
	return look{}.with("C", 0, 0, 0).with("D", 0, 0, 0).with("W", 1000).with("size", 0).with("leading", 0).with("M", m[:]...)
}

// hand is one that draws; the last look is the one that holds, those ahead of it are kept.
type hand struct {
	f          store.File
	res        api.Obj
	looks      []look
	path       []Point
	text, line api.Matrix
	// How many Forms are being drawn, and the numbers of the Refs by which they are.
	deep int
	refs []int
	out  *[]Item
}

func (h *hand) at() look { return h.looks[len(h.looks)-1] }

func (h *hand) set(key string, l ...api.Fix) { h.looks[len(h.looks)-1] = h.at().with(key, l...) }

func must(bad bool, e api.Errno) {
	if bad {
		panic(e)
	}
}

func got[T any](v T, e api.Errno) T {
	must(e != api.OK, e)
	return v
}

func (h *hand) item(i Item) {
	i.Path = append([]Point{}, i.Path...)
	must(len(*h.out) >= 65536, api.ErrLarge)
	*h.out = append(*h.out, i)
}

func (h *hand) paint(kind int, end bool) {
	if len(h.path) > 0 && kind > 0 {
		h.item(Item{Kind: kind, Path: h.path, M: h.at().matrix("M"), C: h.at().colour("C"), D: h.at().colour("D"), W: h.at().l["W"][0]})
	}
	if end {
		h.path = nil
	}
}

func (h *hand) run(b string) {
	for _, op := range got(ops.Parse(b)) {
		k, named := kinds[op.Name]
		if !named {
			continue
		}
		must(!fits(op.Args, k), api.ErrForm)
		var n []api.Fix
		for i := range k {
			if k[i] == 'n' {
				n = append(n, op.Args[i].F)
			}
		}
		s := ""
		for _, o := range op.Args[:len(k)] {
			s += o.S
			for _, inner := range o.L {
				s += strings.Repeat(inner.S, map[int]int{4: 1}[inner.Kind])
			}
		}
		h.do(op.Name, n, s)
	}
}

// do does what an operator tells, most often by others.
func (h *hand) do(name string, n []api.Fix, s string) {
	switch name {
	case "q":
		must(len(h.looks) > 64, api.ErrDeep)
		h.looks = append(h.looks, h.at())
	case "Q":
		must(len(h.looks) == 1, api.ErrForm)
		h.looks = h.looks[:len(h.looks)-1]
	case "cm":
		m := got(geom.Mul(api.Matrix(n), h.at().matrix("M")))
		h.set("M", m[:]...)
	case "w":
		h.set("W", n...)
	case "g", "G":
		h.do(map[string]string{"g": "rg", "G": "RG"}[name], slices.Repeat(n, 3), "")
	case "rg":
		h.set("C", n...)
	case "RG":
		h.set("D", n...)
	case "m", "l":
		h.path = append(slices.Clip(h.path), got2(geom.Apply(h.at().matrix("M"), n[0], n[1])).named(name))
	case "h":
		h.path = append(slices.Clip(h.path), Point{Op: "h"})
	case "re":
		x, y, xw, yh := n[0], n[1], got(fix.Add(n[0], n[2])), got(fix.Add(n[1], n[3]))
		h.around([][]api.Fix{{x, y}, {xw, y}, {xw, yh}, {x, yh}})
	case "s", "b", "b*":
		h.do("h", nil, "")
		h.do(strings.ToUpper(name), nil, "")
	case "f", "F", "f*", "S", "B", "B*", "n":
		h.paint(map[string]int{"f": 1, "F": 1, "f*": 1, "S": 2, "B": 3, "B*": 3}[name], true)
	case "W", "W*":
		h.paint(4, false)
	case "Do":
		h.object(s)
	default:
		h.letter(name, n, s)
	}
}

// letter does what an operator tells of text.
func (h *hand) letter(name string, n []api.Fix, s string) {
	switch name {
	case "BT":
		h.do("Tm", unit[:], "")
	case "Tm":
		h.text, h.line = api.Matrix(n), api.Matrix(n)
	case "Td":
		m := got(geom.Mul(api.Matrix{1000, 0, 0, 1000, n[0], n[1]}, h.line))
		h.do("Tm", m[:], "")
	case "TD":
		h.do("TL", []api.Fix{got(fix.Sub(0, n[1]))}, "")
		h.do("Td", n, "")
	case "TL":
		h.set("leading", n...)
	case "T*":
		h.do("Td", []api.Fix{0, got(fix.Sub(0, h.at().l["leading"][0]))}, "")
	case "Tf":
		h.set("size", n...)
		h.looks[len(h.looks)-1].font = s
	case "Tj", "TJ":
		h.item(Item{Kind: 5, S: s, Font: h.at().font, Size: h.at().l["size"][0], C: h.at().colour("C"), M: got(geom.Mul(h.text, h.at().matrix("M")))})
	case "'":
		h.do("T*", nil, "")
		h.do("Tj", nil, s)
	}
}

// place is where a matrix brings a point.
type place struct{ x, y api.Fix }

func (p place) named(op string) Point { return Point{op, p.x, p.y} }

func got2(x, y api.Fix, e api.Errno) place {
	must(e != api.OK, e)
	return place{x, y}
}

// around goes along corners, and back.
func (h *hand) around(corners [][]api.Fix) {
	for i, c := range corners {
		h.do([]string{"m", "l", "l", "l"}[i], c, "")
	}
	h.do("h", nil, "")
}

// wantGet is the object of the first entry of a key.
func wantGet(o api.Obj, key string) api.Obj {
	var found api.Obj
	for _, x := range slices.Backward(o.D) {
		if x.Key == key && (o.Kind == 6 || o.Kind == 8) {
			found = x.V
		}
	}
	return found
}

func (h *hand) object(name string) {
	res := got(store.Resolve(h.f, h.res))
	all := got(store.Resolve(h.f, wantGet(res, "XObject")))
	o := wantGet(all, name)
	x := got(store.Resolve(h.f, o))
	must(x.Kind != 8, api.ErrType)
	if t := wantGet(x, "Subtype"); t.Kind == 3 && t.S == "Form" {
		h.form(o)
	}
}

func (h *hand) form(o api.Obj) {
	must(h.deep == 16, api.ErrDeep)
	refs := slices.Clone(h.refs)
	if o.Kind == 7 {
		must(slices.Contains(refs, o.N), api.ErrCycle)
		refs = append(refs, o.N)
	}
	x := got(store.Resolve(h.f, o))
	must(x.Kind != 8, api.ErrType)
	in := &hand{f: h.f, res: h.res, looks: []look{h.at()}, text: unit, line: unit, out: h.out, deep: h.deep + 1, refs: refs}
	m := got(pages.Matrix(h.f, wantGet(x, "Matrix")))
	in.do("cm", m[:], "")
	r := got(pages.Rect(h.f, wantGet(x, "BBox")))
	in.around([][]api.Fix{{r.X0, r.Y0}, {r.X1, r.Y0}, {r.X1, r.Y1}, {r.X0, r.Y1}})
	in.do("W", nil, "")
	in.do("n", nil, "")
	if res := got(store.Resolve(h.f, wantGet(x, "Resources"))); res.Kind == 6 {
		in.res = res
	}
	in.run(string(got(store.Data(h.f, x))))
}

// ended is what a hand drew, or the error that ended all.
func ended(h *hand, all func()) (l []Item, e api.Errno) {
	defer func() {
		switch r := recover().(type) {
		case nil:
		case api.Errno:
			l, e = nil, r
		default:
			panic(r)
		}
	}()
	all()
	return *h.out, api.OK
}

func newHand(f store.File, res api.Obj, m api.Matrix) *hand {
	return &hand{f: f, res: res, looks: []look{firstLook(m)}, text: unit, line: unit, out: &[]Item{}}
}

func wantRun(f store.File, res api.Obj, b string) ([]Item, api.Errno) {
	h := newHand(f, res, unit)
	return ended(h, func() { h.run(b) })
}

func wantForm(f store.File, x api.Obj, m api.Matrix) ([]Item, api.Errno) {
	h := newHand(f, obj("<<>>"), m)
	return ended(h, func() { h.form(x) })
}

func wantPage(f store.File, p pages.Page) ([]Item, api.Errno) {
	h := newHand(f, p.Res, unit)
	return ended(h, func() { h.run(string(got(pages.Contents(f, p.O)))) })
}
