package write

import (
	"inkstand/api"
	"inkstand/fix"
)

// maxNumber is the greatest number, or generation, that an object may have: no greater one could be read.
const maxNumber = api.MaxFix / api.Scale

// Sane: why may an object not be written?
func Sane(o api.Obj) api.Errno { return saneIn(o, 0) }

// saneIn: why may an object not be written that stands in so many others?
func saneIn(o api.Obj, depth int) api.Errno {
	switch {
	case !hasSense(o) || o.Kind == api.Stream && depth > 0:
		return api.ErrArg
	case !inRange(o):
		return api.ErrRange
	case tooMany(o):
		return api.ErrLarge
	// It ends objects that hold themselves, too.
	case isNest(o) && depth >= api.MaxDepth:
		return api.ErrDeep
	}
	return saneInside(o, depth+1)
}

// saneInside: why may what stands in an object not be written?
func saneInside(o api.Obj, depth int) api.Errno {
	if o.Kind == api.Arr {
		for _, k := range o.L {
			if err := saneIn(k, depth); err != api.OK {
				return err
			}
		}
	}
	if hasEntries(o) {
		for _, e := range o.D {
			if err := saneIn(e.V, depth); err != api.OK {
				return err
			}
		}
	}
	return api.OK
}

// hasSense: are an object's kind, and the fields that it has, those of an object?
func hasSense(o api.Obj) bool {
	switch o.Kind {
	case api.Null, api.Name, api.Str, api.Arr:
		return true
	case api.Bool:
		return isBit(o.N)
	case api.Num:
		return o.N == 0 || o.N == 1 && isWhole(o.F)
	case api.Ref:
		return o.N >= 0 && o.F >= 0 && isWhole(o.F)
	case api.Dict, api.Stream:
		return entriesHaveSense(o.D)
	}
	return false
}

// entriesHaveSense: has each entry an object, and a key of its own?
func entriesHaveSense(d []api.Entry) bool {
	met := map[string]struct{}{}
	for _, e := range d {
		if _, twice := met[e.Key]; twice || e.V.Kind == api.Null {
			return false
		}
		met[e.Key] = struct{}{}
	}
	return true
}

// inRange: are an object's numbers such that may be?
func inRange(o api.Obj) bool {
	switch o.Kind {
	case api.Num:
		return fix.Sane(o.F)
	case api.Ref:
		return fix.Sane(o.F) && o.N <= maxNumber
	}
	return true
}

// tooMany: do more objects, or entries, stand in an object than may?
func tooMany(o api.Obj) bool {
	return o.Kind == api.Arr && len(o.L) > api.MaxKids || hasEntries(o) && len(o.D) > api.MaxKids
}

func isNest(o api.Obj) bool { return o.Kind == api.Arr || hasEntries(o) }

func hasEntries(o api.Obj) bool { return o.Kind == api.Dict || o.Kind == api.Stream }

func isBit(n int) bool { return n == 0 || n == 1 }

// isWhole: is a number without thousandths?
func isWhole(f api.Fix) bool { return f%api.Scale == 0 }
