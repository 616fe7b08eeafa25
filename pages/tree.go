package pages

import (
	"inkstand/api"
	"inkstand/cos"
	"inkstand/store"
)

// The box of a page that is told none, in whole units.
const (
	plainWidth  = 612
	plainHeight = 792
)

// A quarter of a turn, and a whole one, as numbers.
const (
	quarter = 90 * api.Scale
	round   = 4 * quarter
)

// handed is the entries that a node hands on to those behind it, by their keys.
type handed map[string]api.Obj

// taken is what a node has of these: its own entries, or else those that are handed to it.
func (h handed) taken(o api.Obj) handed {
	own := handed{}
	for key, v := range h {
		if mine := cos.Get(o, key); mine.Kind != api.Null {
			v = mine
		}
		own[key] = v
	}
	return own
}

// node is one of those that lead to the pages, or a page.
type node struct {
	handed
	// Its Ref's number, and the Dict that it leads to.
	n int
	o api.Obj
	// How many nodes are ahead of its kids on their way, itself among them.
	way int
}

// start is what stands ahead of the first node: none, with nothing to hand on.
func start() node {
	return node{handed: handed{"MediaBox": {}, "Resources": {}, "Rotate": {}}}
}

// walk goes through nodes, and gathers the pages.
type walk struct {
	f     store.File
	met   map[int]struct{}
	pages []Page
}

// through goes through the node that an object is, and through all behind it.
func (w *walk) through(o api.Obj, ahead node) api.Errno {
	at, err := w.reached(o, ahead)
	if err != api.OK {
		return err
	}
	kids, err := store.Entry(w.f, at.o, "Kids")
	switch {
	case err != api.OK:
		return err
	case kids.Kind == api.Null:
		return w.page(at)
	case kids.Kind != api.Arr:
		return api.ErrType
	}
	for _, kid := range kids.L {
		if err := w.through(kid, at); err != api.OK {
			return err
		}
	}
	return api.OK
}

// reached is the node that an object is, met now.
func (w *walk) reached(o api.Obj, ahead node) (node, api.Errno) {
	switch {
	case o.Kind != api.Ref:
		return node{}, api.ErrType
	case ahead.way > api.MaxDepth:
		return node{}, api.ErrDeep
	}
	if _, met := w.met[o.N]; met {
		return node{}, api.ErrCycle
	}
	w.met[o.N] = struct{}{}
	dict, err := store.Resolve(w.f, o)
	switch {
	case err != api.OK:
		return node{}, err
	case dict.Kind != api.Dict:
		return node{}, api.ErrType
	}
	return node{handed: ahead.taken(dict), n: o.N, o: dict, way: ahead.way + 1}, api.OK
}

// page gathers the page that a node is.
func (w *walk) page(at node) api.Errno {
	box, err := boxOf(w.f, at.handed["MediaBox"])
	if err != api.OK {
		return err
	}
	res, err := resourcesOf(w.f, at.handed["Resources"])
	if err != api.OK {
		return err
	}
	turn, err := turnOf(w.f, at.handed["Rotate"])
	if err != api.OK {
		return err
	}
	if len(w.pages) == api.MaxKids {
		return api.ErrLarge
	}
	w.pages = append(w.pages, Page{N: at.n, O: at.o, Res: res, Box: box, Turn: turn})
	return api.OK
}

// boxOf is a page's box by its MediaBox.
func boxOf(f store.File, o api.Obj) (api.Rect, api.Errno) {
	if o.Kind == api.Null {
		return api.Rect{X1: plainWidth * api.Scale, Y1: plainHeight * api.Scale}, api.OK
	}
	return Rect(f, o)
}

// resourcesOf is a page's resources by its Resources.
func resourcesOf(f store.File, o api.Obj) (api.Obj, api.Errno) {
	res, err := store.Resolve(f, o)
	switch {
	case err != api.OK:
		return api.Obj{}, err
	case res.Kind != api.Dict:
		return api.Obj{Kind: api.Dict}, api.OK
	}
	return res, api.OK
}

// turnOf is how many quarters a page is turned by its Rotate.
func turnOf(f store.File, o api.Obj) (int, api.Errno) {
	num, err := store.Resolve(f, o)
	switch {
	case err != api.OK:
		return 0, err
	case num.Kind != api.Num || num.F%quarter != 0:
		return 0, api.OK
	}
	// What is left of a number below 0 is below 0 too: a whole turn more brings it to where it is.
	return int((num.F%round + round) % round / quarter), api.OK
}
