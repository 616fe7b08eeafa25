package store

import (
	"inkstand/api"
	"inkstand/cos"
	"inkstand/xref"
)

// reader reads a file's tables, the youngest one first.
type reader struct {
	s string
	// The places of the tables that were read, and what these tell, the youngest ones first.
	met map[int]struct{}
	l   []xref.Entry
}

// tables is each number's youngest entry, by rising number, and the youngest table's trailer.
func tables(s string) ([]xref.Entry, api.Obj, api.Errno) {
	at, err := xref.Start(s)
	if err != api.OK {
		return nil, api.Obj{}, err
	}
	r := reader{s: s, met: map[int]struct{}{}}
	trailer, err := r.table(at)
	for last := trailer; err == api.OK; {
		prev := cos.Get(last, "Prev")
		if !isWhole(prev) {
			break
		}
		last, err = r.table(wholeOf(prev))
	}
	if err != api.OK {
		return nil, api.Obj{}, err
	}
	// Once for all tables: a merge for each of them would go over all entries again and again.
	return xref.Merge(r.l, nil), trailer, api.OK
}

// table reads the table at a place, and tells its trailer.
func (r *reader) table(at int) (api.Obj, api.Errno) {
	if _, met := r.met[at]; met {
		return api.Obj{}, api.ErrCycle
	}
	if at > len(r.s) {
		return api.Obj{}, api.ErrRange
	}
	l, trailer, err := xref.Parse(r.s, at)
	if err != api.OK {
		return api.Obj{}, err
	}
	r.met[at] = struct{}{}
	r.l = append(r.l, l...)
	return trailer, api.OK
}

// objects is the objects of the entries that are used.
func objects(s string, entries []xref.Entry) ([]Numbered, api.Errno) {
	var l []Numbered
	for _, e := range entries {
		if !e.Used {
			continue
		}
		one, err := objectOf(s, e)
		if err != api.OK {
			return nil, err
		}
		l = append(l, one)
	}
	return l, api.OK
}

// objectOf is the object that stands where an entry tells.
func objectOf(s string, e xref.Entry) (Numbered, api.Errno) {
	if e.Off > len(s) {
		return Numbered{}, api.ErrRange
	}
	n, g, o, _, err := cos.Indirect(s, e.Off)
	switch {
	case err != api.OK:
		return Numbered{}, err
	case n != e.N || g != e.Gen:
		return Numbered{}, api.ErrForm
	}
	return Numbered{N: n, G: g, O: o}, api.OK
}

// isWhole: is an object a whole number?
func isWhole(o api.Obj) bool { return o.Kind == api.Num && o.N == 1 && o.F >= 0 }

// wholeOf is the number that an object is.
func wholeOf(o api.Obj) int { return int(o.F / api.Scale) }
