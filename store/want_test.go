package store

import (
	"regexp"
	"slices"
	"strconv"

	"inkstand/api"
	"inkstand/cos"
	"inkstand/inflate"
	"inkstand/write"
	"inkstand/xref"
)

// P9.1 to P9.4: answers by the document's words, told another way than the program's.

var (
	beginsRight = regexp.MustCompile(`^%PDF-`)
	allDigits   = regexp.MustCompile(`^[0-9]+$`)
)

// wantWhole is the whole number that an object is, by what it is written as.
func wantWhole(o api.Obj) (int, bool) {
	s, _ := write.Object(o)
	if !allDigits.MatchString(s) {
		return 0, false
	}
	n, e := strconv.Atoi(s)
	return n, e == nil
}

// wantTables is each number's entry, where the oldest table's are laid first, and the trailer of the table at a place.
func wantTables(s string, at int, ahead []int) (map[int]xref.Entry, api.Obj, api.Errno) {
	switch {
	case slices.Contains(ahead, at):
		return nil, none, api.ErrCycle
	case at > len(s):
		return nil, none, api.ErrRange
	}
	l, trailer, e := xref.Parse(s, at)
	if e != api.OK {
		return nil, none, e
	}
	all := map[int]xref.Entry{}
	if prev, ok := wantWhole(cos.Get(trailer, "Prev")); ok {
		if all, _, e = wantTables(s, prev, append(ahead, at)); e != api.OK {
			return nil, none, e
		}
	}
	for _, one := range slices.Backward(l) {
		all[one.N] = one
	}
	return all, trailer, api.OK
}

func wantOpen(s string) (File, api.Errno) {
	if !beginsRight.MatchString(s) {
		return File{}, api.ErrForm
	}
	at, e := xref.Start(s)
	if e != api.OK {
		return File{}, e
	}
	all, trailer, e := wantTables(s, at, nil)
	if e != api.OK {
		return File{}, e
	}
	f := File{Trailer: trailer}
	for number := range 4096 {
		x := all[number]
		if !x.Used {
			continue
		}
		if x.Off > len(s) {
			return File{}, api.ErrRange
		}
		n, g, o, _, e := cos.Indirect(s, x.Off)
		if e == api.OK && [2]int{n, g} != [2]int{number, x.Gen} {
			e = api.ErrForm
		}
		if e != api.OK {
			return File{}, e
		}
		f.L = append(f.L, Numbered{number, x.Gen, o})
	}
	return f, api.OK
}

func wantFind(f File, n int) api.Obj {
	var found api.Obj
	for _, x := range slices.Backward(f.L) {
		if x.N == n {
			found = x.O
		}
	}
	return found
}

// wantResolve goes on by itself, found so many objects already.
func wantResolve(f File, o api.Obj, found int) (api.Obj, api.Errno) {
	switch {
	case o.Kind != 7:
		return o, api.OK
	case found == 64:
		return none, api.ErrCycle
	}
	return wantResolve(f, wantFind(f, o.N), found+1)
}

func wantEntry(f File, o api.Obj, key string) (api.Obj, api.Errno) {
	o, e := wantResolve(f, o, 0)
	if e != api.OK {
		return none, e
	}
	if o.Kind == 6 || o.Kind == 8 {
		for _, x := range o.D {
			if x.Key == key {
				return wantResolve(f, x.V, 0)
			}
		}
	}
	return none, api.OK
}

func wantPut(f File, n int, o api.Obj) (File, api.Errno) {
	if n <= 0 || n > 4095 {
		return File{}, api.ErrArg
	}
	has := slices.ContainsFunc(f.L, func(x Numbered) bool { return x.N == n })
	done := false
	g := File{Trailer: f.Trailer}
	for _, x := range f.L {
		switch {
		case has && !done && x.N == n:
			x.O = o
			done = true
		case !has && !done && x.N > n:
			g.L = append(g.L, Numbered{n, 0, o})
			done = true
		}
		g.L = append(g.L, x)
	}
	if !done {
		g.L = append(g.L, Numbered{n, 0, o})
	}
	return g, api.OK
}

func wantFree(f File) int {
	numbers := []int{}
	for _, x := range f.L {
		numbers = append(numbers, x.N)
	}
	slices.Sort(numbers)
	n := 1
	for _, taken := range numbers {
		if taken == n {
			n++
		}
	}
	return n
}

func wantData(f File, o api.Obj) (string, api.Errno) {
	o, e := wantResolve(f, o, 0)
	if e != api.OK {
		return "", e
	}
	if o.Kind != 8 {
		return "", api.ErrType
	}
	parms, e := wantEntry(f, o, "DecodeParms")
	if e != api.OK {
		return "", e
	}
	if parms.Kind != 0 {
		return "", api.ErrFilter
	}
	filter, e := wantEntry(f, o, "Filter")
	if e != api.OK {
		return "", e
	}
	if filter.Kind == 0 {
		return o.S, api.OK
	}
	if filter.Kind != 5 {
		filter = arr(filter)
	}
	if len(filter.L) >= 9 {
		return "", api.ErrLarge
	}
	return wantFiltered(f, filter.L, o.S)
}

// wantFiltered goes on by itself with the filters that are left.
func wantFiltered(f File, l []api.Obj, s string) (string, api.Errno) {
	if len(l) == 0 {
		return s, api.OK
	}
	name, e := wantResolve(f, l[0], 0)
	if e != api.OK {
		return "", e
	}
	if name.Kind != 3 || !slices.Contains([]string{"Fl", "FlateDecode"}, name.S) {
		return "", api.ErrFilter
	}
	b, _, e := inflate.Zlib([]byte(s))
	if e != api.OK {
		return "", e
	}
	return wantFiltered(f, l[1:], string(b))
}
