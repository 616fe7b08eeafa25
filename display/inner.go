package display

import (
	"slices"

	"inkstand/api"
	"inkstand/cos"
	"inkstand/geom"
	"inkstand/pages"
	"inkstand/store"
)

// How many Forms may be in one another.
const maxForms = 16

// object draws an object of the resources, by its name, if it is a Form.
func (p *pen) object(l []api.Obj) api.Errno {
	name, err := first(l, api.Name)
	if err != api.OK {
		return err
	}
	all, err := store.Entry(p.on.f, p.res, "XObject")
	if err != api.OK {
		return err
	}
	x, err := store.Entry(p.on.f, all, name.S)
	switch {
	case err != api.OK:
		return err
	case x.Kind != api.Stream:
		return api.ErrType
	case !isForm(x):
		return api.OK
	}
	// As it stands there: a Ref's number tells whether it is being drawn.
	return p.form(cos.Get(all, name.S))
}

// isForm: is a Stream a Form?
func isForm(x api.Obj) bool {
	kind := cos.Get(x, "Subtype")
	return kind.Kind == api.Name && kind.S == "Form"
}

// form draws the Form that an object leads to, by a pen of its own that begins with this one's state.
func (p *pen) form(o api.Obj) api.Errno {
	switch {
	case len(p.forms) == maxForms:
		return api.ErrDeep
	case isDrawn(p.forms, o):
		return api.ErrCycle
	}
	x, err := store.Resolve(p.on.f, o)
	switch {
	case err != api.OK:
		return err
	case x.Kind != api.Stream:
		return api.ErrType
	}
	inner := newPen(p.on, p.state, p.res)
	inner.forms = append(slices.Clone(p.forms), o)
	if err := inner.enter(x); err != api.OK {
		return err
	}
	b, err := store.Data(p.on.f, x)
	if err != api.OK {
		return err
	}
	return inner.draw(b)
}

// isDrawn: is one of some Forms drawn by the Ref that an object is?
func isDrawn(forms []api.Obj, o api.Obj) bool {
	return o.Kind == api.Ref && slices.ContainsFunc(forms, func(form api.Obj) bool {
		return form.Kind == api.Ref && form.N == o.N
	})
}

// enter sets what a Form is drawn by: its matrix, its box, that all of it is clipped to, and its resources.
func (p *pen) enter(x api.Obj) api.Errno {
	m, err := pages.Matrix(p.on.f, cos.Get(x, "Matrix"))
	if err != api.OK {
		return err
	}
	if p.matrix, err = geom.Mul(m, p.matrix); err != api.OK {
		return err
	}
	if err := p.clipTo(cos.Get(x, "BBox")); err != api.OK {
		return err
	}
	res, err := store.Entry(p.on.f, x, "Resources")
	if err != api.OK {
		return err
	}
	if res.Kind == api.Dict {
		p.res = res
	}
	return api.OK
}

// clipTo lays down the Clip of a box, and leaves no path.
func (p *pen) clipTo(box api.Obj) api.Errno {
	r, err := pages.Rect(p.on.f, box)
	if err != api.OK {
		return err
	}
	if err := p.box(r); err != api.OK {
		return err
	}
	if err := p.lay(Clip); err != api.OK {
		return err
	}
	p.path = p.path[:0]
	return api.OK
}
