package metric

import (
	"inkstand/api"
	"inkstand/store"
)

// How many widths a font may have; how great one may be, and the byte that they begin with, in units.
const (
	maxWidths = 256
	maxWidth  = 5000
	maxFirst  = 255
)

// Of is an object's font.
func Of(f store.File, o api.Obj) (Font, api.Errno) {
	dict, err := store.Resolve(f, o)
	switch {
	case err != api.OK:
		return Font{}, err
	case dict.Kind != api.Dict:
		return Font{}, api.ErrType
	}
	arr, err := store.Entry(f, dict, "Widths")
	switch {
	case err != api.OK:
		return Font{}, err
	case arr.Kind == api.Null:
		return named(f, dict)
	}
	return listed(f, dict, arr)
}

// named is the font that a Dict without widths names.
func named(f store.File, dict api.Obj) (Font, api.Errno) {
	name, err := store.Entry(f, dict, "BaseFont")
	switch {
	case err != api.OK:
		return Font{}, err
	case name.Kind != api.Name:
		return Font{}, api.ErrForm
	}
	t, ok := Standard(name.S)
	if !ok {
		return Font{}, api.ErrForm
	}
	return t, api.OK
}

// listed is the font of a Dict, and of the object that its widths are to be.
func listed(f store.File, dict, arr api.Obj) (Font, api.Errno) {
	widths, err := widthsOf(f, arr)
	if err != api.OK {
		return Font{}, err
	}
	first, err := store.Entry(f, dict, "FirstChar")
	switch {
	case err != api.OK:
		return Font{}, err
	case first.N != 1 || !isWholeTo(first, maxFirst):
		return Font{}, api.ErrForm
	}
	return Font{First: int(first.F / api.Scale), Widths: widths}, api.OK
}

// widthsOf is the widths to which the objects of an Arr lead.
func widthsOf(f store.File, arr api.Obj) ([]int, api.Errno) {
	switch {
	case arr.Kind != api.Arr:
		return nil, api.ErrForm
	case len(arr.L) > maxWidths:
		return nil, api.ErrLarge
	}
	var l []int
	for _, o := range arr.L {
		w, err := store.Resolve(f, o)
		switch {
		case err != api.OK:
			return nil, err
		case !isWholeTo(w, maxWidth):
			return nil, api.ErrForm
		}
		l = append(l, int(w.F/api.Scale))
	}
	return l, api.OK
}

// isWholeTo: is an object a Num without thousandths, from 0 to so many units?
func isWholeTo(o api.Obj, most api.Fix) bool {
	return o.Kind == api.Num && o.F%api.Scale == 0 && o.F >= 0 && o.F <= most*api.Scale
}
