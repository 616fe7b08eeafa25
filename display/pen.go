package display

import (
	"inkstand/api"
	"inkstand/geom"
	"inkstand/ops"
)

// How many states may be kept at once, and how many numbers an operator has at most.
const (
	maxKept    = 64
	maxNumbers = 6
)

// state is what q keeps and Q takes back.
type state struct {
	matrix       api.Matrix
	fill, stroke [3]api.Fix
	width        api.Fix
	font         string
	size         api.Fix
	leading      api.Fix
}

// start is the first state, with a matrix.
func start(m api.Matrix) state { return state{matrix: m, width: api.Scale} }

// pen draws the operators of one text.
type pen struct {
	state
	kept []state
	path []Point
	// The text's matrix, which is its line's too: what is shown moves neither.
	text api.Matrix
	on   *sheet
	// Where names are looked for.
	res api.Obj
	// The Forms that are being drawn, each in the one ahead of it, by the objects that lead to them.
	forms []api.Obj
}

// newPen is one that draws in no Form.
func newPen(on *sheet, at state, res api.Obj) *pen {
	return &pen{state: at, text: geom.Unit(), on: on, res: res}
}

// draw does what bytes tell.
func (p *pen) draw(b []byte) api.Errno {
	l, err := ops.Parse(string(b))
	if err != api.OK {
		return err
	}
	for _, op := range l {
		if err := p.step(op); err != api.OK {
			return err
		}
	}
	return api.OK
}

// step does what one operator tells.
func (p *pen) step(op ops.Op) api.Errno {
	n, err := numbers(op.Args, numbersOf(op.Name))
	if err != api.OK {
		return err
	}
	switch op.Name {
	case "q", "Q", "cm", "w", "g", "G", "rg", "RG":
		return p.change(op.Name, n)
	case "m", "l", "h", "re":
		return p.trace(op.Name, n)
	case "f", "F", "f*", "S", "s", "B", "B*", "b", "b*", "n", "W", "W*":
		return p.paint(op.Name)
	case "BT", "Tm", "Td", "TD", "TL", "T*":
		return p.move(op.Name, n)
	case "Tf":
		return p.choose(op.Args)
	case "Tj", "'", "TJ":
		return p.write(op)
	case "Do":
		return p.object(op.Args)
	}
	return api.OK
}

// numbersOf is how many numbers the objects of an operator begin with.
func numbersOf(name string) int {
	switch name {
	case "cm", "Tm":
		return 6
	case "re":
		return 4
	case "rg", "RG":
		return 3
	case "m", "l", "Td", "TD":
		return 2
	case "w", "g", "G", "TL":
		return 1
	}
	return 0
}

// numbers is as many numbers as are asked for, from the first object on.
func numbers(l []api.Obj, count int) ([maxNumbers]api.Fix, api.Errno) {
	var n [maxNumbers]api.Fix
	for i := range count {
		if i >= len(l) || l[i].Kind != api.Num {
			clear(n[:])
			return n, api.ErrForm
		}
		n[i] = l[i].F
	}
	return n, api.OK
}

// first is the first object, if it is of a kind.
func first(l []api.Obj, kind int) (api.Obj, api.Errno) {
	if len(l) == 0 || l[0].Kind != kind {
		return api.Obj{}, api.ErrForm
	}
	return l[0], api.OK
}

// change does what an operator tells of the state.
func (p *pen) change(name string, n [maxNumbers]api.Fix) api.Errno {
	switch name {
	case "q":
		return p.keep()
	case "Q":
		return p.back()
	case "cm":
		m, err := geom.Mul(n, p.matrix)
		if err != api.OK {
			return err
		}
		p.matrix = m
	case "w":
		p.width = n[0]
	case "g":
		p.fill = [3]api.Fix{n[0], n[0], n[0]}
	case "G":
		p.stroke = [3]api.Fix{n[0], n[0], n[0]}
	case "rg":
		p.fill = [3]api.Fix{n[0], n[1], n[2]}
	case "RG":
		p.stroke = [3]api.Fix{n[0], n[1], n[2]}
	}
	return api.OK
}

// keep keeps the state.
func (p *pen) keep() api.Errno {
	if len(p.kept) == maxKept {
		return api.ErrDeep
	}
	p.kept = append(p.kept, p.state)
	return api.OK
}

// back takes back the state that was kept last.
func (p *pen) back() api.Errno {
	last := len(p.kept) - 1
	if last < 0 {
		return api.ErrForm
	}
	p.state, p.kept = p.kept[last], p.kept[:last]
	return api.OK
}
