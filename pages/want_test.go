package pages

import (
	"math/big"
	"slices"
	"strings"

	"inkstand/api"
	"inkstand/store"
)

// P10.1 to P10.4: answers by the document's words, told another way than the program's.

// wantGet is the object of the first entry of a key.
func wantGet(o api.Obj, key string) api.Obj {
	var found api.Obj
	if o.Kind == 6 || o.Kind == 8 {
		for _, x := range slices.Backward(o.D) {
			if x.Key == key {
				found = x.V
			}
		}
	}
	return found
}

// wantNumbers goes over an Arr from its end, so that the first error is the last one that is met.
func wantNumbers(f store.File, o api.Obj, count int) ([]api.Fix, api.Errno) {
	o, e := store.Resolve(f, o)
	if e != api.OK {
		return nil, e
	}
	if o.Kind != 5 || len(o.L) > count || len(o.L) < count {
		return nil, api.ErrForm
	}
	l := make([]api.Fix, count)
	for i, x := range slices.Backward(o.L) {
		v, err := store.Resolve(f, x)
		if err != api.OK {
			e = err
		} else if v.Kind != 2 {
			e = api.ErrForm
		}
		l[i] = v.F
	}
	if e != api.OK {
		return nil, e
	}
	return l, api.OK
}

func wantRect(f store.File, o api.Obj) (api.Rect, api.Errno) {
	l, e := wantNumbers(f, o, 4)
	if e != api.OK {
		return api.Rect{}, e
	}
	x, y := []api.Fix{l[0], l[2]}, []api.Fix{l[1], l[3]}
	slices.Sort(x)
	slices.Sort(y)
	return api.Rect{X0: x[0], Y0: y[0], X1: x[1], Y1: y[1]}, api.OK
}

func wantMatrix(f store.File, o api.Obj) (api.Matrix, api.Errno) {
	if v, e := store.Resolve(f, o); e == api.OK && v.Kind == 0 {
		return api.Matrix{1000, 0, 0, 1000, 0, 0}, api.OK
	}
	l, e := wantNumbers(f, o, 6)
	if e != api.OK {
		return api.Matrix{}, e
	}
	return api.Matrix(l), api.OK
}

func wantRoot(f store.File) (api.Obj, api.Errno) {
	t, e := store.Resolve(f, f.Trailer)
	if e != api.OK {
		return none, e
	}
	o, e := store.Resolve(f, wantGet(t, "Root"))
	if e == api.OK && o.Kind != 6 {
		e = api.ErrType
	}
	if e != api.OK {
		return none, e
	}
	return o, api.OK
}

// todo is a node that is to be gone to, and the Dicts of all nodes ahead of it on its way.
type todo struct {
	o   api.Obj
	way []api.Obj
}

// wantPages goes over nodes by a pile of those that are to be gone to, the next one on top.
func wantPages(f store.File) ([]Page, api.Errno) {
	root, e := wantRoot(f)
	if e != api.OK {
		return nil, e
	}
	var l []Page
	var met []int
	pile := []todo{{o: wantGet(root, "Pages")}}
	for len(pile) > 0 {
		x := pile[len(pile)-1]
		pile = pile[:len(pile)-1]
		dict, kids, e := wantNode(f, x, met)
		if e != api.OK {
			return nil, e
		}
		met = append(met, x.o.N)
		way := append(slices.Clone(x.way), dict)
		if kids.Kind == 5 {
			for _, kid := range slices.Backward(kids.L) {
				pile = append(pile, todo{kid, way})
			}
			continue
		}
		p, e := wantPage(f, x.o.N, way)
		if e == api.OK && len(l) == 1024 {
			e = api.ErrLarge
		}
		if e != api.OK {
			return nil, e
		}
		l = append(l, p)
	}
	return l, api.OK
}

// wantNode is a node's Dict and its Kids.
func wantNode(f store.File, x todo, met []int) (api.Obj, api.Obj, api.Errno) {
	switch {
	case x.o.Kind != 7:
		return none, none, api.ErrType
	case len(x.way) >= 65:
		return none, none, api.ErrDeep
	case slices.Contains(met, x.o.N):
		return none, none, api.ErrCycle
	}
	dict, e := store.Resolve(f, x.o)
	if e != api.OK {
		return none, none, e
	}
	if dict.Kind != 6 {
		return none, none, api.ErrType
	}
	kids, e := store.Resolve(f, wantGet(dict, "Kids"))
	if e == api.OK && kids.Kind != 0 && kids.Kind != 5 {
		e = api.ErrType
	}
	return dict, kids, e
}

// wantHanded is the entry of the last Dict of a way that has one.
func wantHanded(way []api.Obj, key string) api.Obj {
	for _, dict := range slices.Backward(way) {
		if o := wantGet(dict, key); o.Kind != 0 {
			return o
		}
	}
	return none
}

// wantPage is the page at the end of a way.
func wantPage(f store.File, n int, way []api.Obj) (Page, api.Errno) {
	p := Page{N: n, O: way[len(way)-1], Box: api.Rect{X0: 0, Y0: 0, X1: 612000, Y1: 792000}}
	if o := wantHanded(way, "MediaBox"); o.Kind != 0 {
		r, e := wantRect(f, o)
		if e != api.OK {
			return Page{}, e
		}
		p.Box = r
	}
	res, e := store.Resolve(f, wantHanded(way, "Resources"))
	if e != api.OK {
		return Page{}, e
	}
	if res.Kind != 6 {
		res = api.Obj{Kind: 6}
	}
	p.Res = res
	rotate, e := store.Resolve(f, wantHanded(way, "Rotate"))
	if e != api.OK {
		return Page{}, e
	}
	if rotate.Kind == 2 {
		p.Turn = wantTurn(rotate.F)
	}
	return p, api.OK
}

// wantTurn reckons with numbers of any size.
func wantTurn(f api.Fix) int {
	turns, rest := new(big.Int).DivMod(big.NewInt(int64(f)), big.NewInt(90000), new(big.Int))
	if rest.Sign() != 0 {
		return 0
	}
	return int(turns.Mod(turns, big.NewInt(4)).Int64())
}

func wantContents(f store.File, p api.Obj) (string, api.Errno) {
	p, e := store.Resolve(f, p)
	if e != api.OK {
		return "", e
	}
	o, e := store.Resolve(f, wantGet(p, "Contents"))
	if e != api.OK {
		return "", e
	}
	l := []api.Obj{o}
	switch o.Kind {
	case 0:
		return "", api.OK
	case 5:
		l = o.L
	}
	var parts []string
	for _, x := range l {
		b, e := store.Data(f, x)
		if e != api.OK {
			return "", e
		}
		parts = append(parts, string(b))
	}
	return strings.Join(parts, "\x0a"), api.OK
}
