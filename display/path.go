package display

import (
	"slices"

	"inkstand/api"
	"inkstand/fix"
	"inkstand/geom"
)

// trace does what an operator tells of the path.
func (p *pen) trace(name string, n [maxNumbers]api.Fix) api.Errno {
	switch name {
	case "m", "l":
		return p.point(name, n[0], n[1])
	case "h":
		p.shut()
	case "re":
		x, err := fix.Add(n[0], n[2])
		if err != api.OK {
			return err
		}
		y, err := fix.Add(n[1], n[3])
		if err != api.OK {
			return err
		}
		return p.box(api.Rect{X0: n[0], Y0: n[1], X1: x, Y1: y})
	}
	return api.OK
}

// point adds a place, where the matrix brings it, to the path.
func (p *pen) point(name string, x, y api.Fix) api.Errno {
	x, y, err := geom.Apply(p.matrix, x, y)
	if err != api.OK {
		return err
	}
	p.path = append(p.path, Point{Op: name, X: x, Y: y})
	return api.OK
}

// shut adds the point that leads back to where the path began.
func (p *pen) shut() { p.path = append(p.path, Point{Op: "h"}) }

// box adds a rectangle to the path, from its first corner around.
func (p *pen) box(r api.Rect) api.Errno {
	for _, c := range [4]Point{{"m", r.X0, r.Y0}, {"l", r.X1, r.Y0}, {"l", r.X1, r.Y1}, {"l", r.X0, r.Y1}} {
		if err := p.point(c.Op, c.X, c.Y); err != api.OK {
			return err
		}
	}
	p.shut()
	return api.OK
}

// paint does what an operator tells to be done with the path.
func (p *pen) paint(name string) api.Errno {
	switch name {
	case "W", "W*":
		return p.lay(Clip)
	case "s", "b", "b*":
		p.shut()
	}
	if err := p.lay(paintOf(name)); err != api.OK {
		return err
	}
	p.path = p.path[:0]
	return api.OK
}

// paintOf is the kind of the item that an operator paints, or 0: of n there is none.
func paintOf(name string) int {
	switch name {
	case "f", "F", "f*":
		return Fill
	case "S", "s":
		return Stroke
	case "B", "B*", "b", "b*":
		return Both
	}
	return 0
}

// lay lays an item of the path down, if there is a kind and a path.
func (p *pen) lay(kind int) api.Errno {
	if kind == 0 || len(p.path) == 0 {
		return api.OK
	}
	// A path of the item's own, as this one may go on, and others may have the same.
	return p.on.add(Item{Kind: kind, M: p.matrix, Path: slices.Clone(p.path), C: p.fill, D: p.stroke, W: p.width})
}
