package store

import (
	"iter"

	"inkstand/api"
	"inkstand/inflate"
)

// How many filters a stream may have.
const maxFilters = 8

// streamOf is the stream that an object leads to, if its filters need nothing but their names.
func streamOf(f File, o api.Obj) (api.Obj, api.Errno) {
	stream, err := Resolve(f, o)
	switch {
	case err != api.OK:
		return api.Obj{}, err
	case stream.Kind != api.Stream:
		return api.Obj{}, api.ErrType
	}
	parms, err := Entry(f, stream, "DecodeParms")
	switch {
	case err != api.OK:
		return api.Obj{}, err
	case parms.Kind != api.Null:
		return api.Obj{}, api.ErrFilter
	}
	return stream, api.OK
}

// filters is the objects that lead to the names of a stream's filters.
func filters(f File, stream api.Obj) ([]api.Obj, api.Errno) {
	o, err := Entry(f, stream, "Filter")
	switch {
	case err != api.OK:
		return nil, err
	case o.Kind == api.Null:
		return nil, api.OK
	case o.Kind != api.Arr:
		return []api.Obj{o}, api.OK
	case len(o.L) > maxFilters:
		return nil, api.ErrLarge
	}
	return o.L, api.OK
}

// names tells the names of filters, one by one: each is looked for as it is come to, behind what the filter ahead of it did. In the place of one that isn't there it tells an error.
func names(f File, l []api.Obj) iter.Seq2[string, api.Errno] {
	return func(yield func(string, api.Errno) bool) {
		for _, o := range l {
			if !yield(nameOf(f, o)) {
				return
			}
		}
	}
}

// nameOf is the name that an object leads to.
func nameOf(f File, o api.Obj) (string, api.Errno) {
	name, err := Resolve(f, o)
	switch {
	case err != api.OK:
		return "", err
	case name.Kind != api.Name:
		return "", api.ErrFilter
	}
	return name.S, api.OK
}

// filtered is what a filter makes of bytes.
func filtered(b []byte, name string) ([]byte, api.Errno) {
	if name != "FlateDecode" && name != "Fl" {
		return nil, api.ErrFilter
	}
	out, _, err := inflate.Zlib(b)
	return out, err
}
