package display

import (
	"strings"

	"inkstand/api"
	"inkstand/fix"
	"inkstand/geom"
	"inkstand/ops"
)

// move does what an operator tells of where text stands.
func (p *pen) move(name string, n [maxNumbers]api.Fix) api.Errno {
	switch name {
	case "BT":
		p.text = geom.Unit()
	case "Tm":
		p.text = n
	case "Td":
		return p.lineAt(n[0], n[1])
	case "TD":
		leading, err := fix.Sub(0, n[1])
		if err != api.OK {
			return err
		}
		p.leading = leading
		return p.lineAt(n[0], n[1])
	case "TL":
		p.leading = n[0]
	case "T*":
		return p.nextLine()
	}
	return api.OK
}

// lineAt begins a line so far from where this one began.
func (p *pen) lineAt(x, y api.Fix) api.Errno {
	m, err := geom.Mul(api.Matrix{api.Scale, 0, 0, api.Scale, x, y}, p.text)
	if err != api.OK {
		return err
	}
	p.text = m
	return api.OK
}

// nextLine begins the line below this one.
func (p *pen) nextLine() api.Errno {
	y, err := fix.Sub(0, p.leading)
	if err != api.OK {
		return err
	}
	return p.lineAt(0, y)
}

// choose takes a font, by its name and its size.
func (p *pen) choose(l []api.Obj) api.Errno {
	name, err := first(l, api.Name)
	if err != api.OK {
		return err
	}
	n, err := numbers(l[1:], 1)
	if err != api.OK {
		return err
	}
	p.font, p.size = name.S, n[0]
	return api.OK
}

// write does what an operator tells to be shown.
func (p *pen) write(op ops.Op) api.Errno {
	if op.Name == "TJ" {
		l, err := first(op.Args, api.Arr)
		if err != api.OK {
			return err
		}
		return p.show(joined(l.L))
	}
	s, err := first(op.Args, api.Str)
	if err != api.OK {
		return err
	}
	if op.Name == "'" {
		if err := p.nextLine(); err != api.OK {
			return err
		}
	}
	return p.show(s.S)
}

// show lays an item of a text down.
func (p *pen) show(s string) api.Errno {
	m, err := geom.Mul(p.text, p.matrix)
	if err != api.OK {
		return err
	}
	return p.on.add(Item{Kind: Show, M: m, C: p.fill, Font: p.font, Size: p.size, S: s})
}

// joined is the texts among objects, one behind the other.
func joined(l []api.Obj) string {
	var b strings.Builder
	for _, o := range l {
		if o.Kind == api.Str {
			b.WriteString(o.S)
		}
	}
	return b.String()
}
