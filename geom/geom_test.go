package geom

import (
	"math"
	"math/big"
	"math/rand"
	"slices"
	"testing"

	"inkstand/api"
)

const most = api.Fix(api.MaxFix)

// wrongs are numbers that may not be, just beyond the range and at the ends of the type.
func wrongs() []api.Fix {
	return []api.Fix{most + 1, -most - 1, 2 * most, -2 * most, 1 << 62, math.MaxInt, math.MinInt}
}

// edges are numbers at which something changes, and numbers that may not be.
func edges() []api.Fix {
	l := []api.Fix{0, 1, -1, 499, 500, -500, 1000, -1000, 1500, most / 2, -most / 2, most - 1, 1 - most, most, -most}
	return append(l, wrongs()...)
}

// A reckoner reckons one formula in exact numbers, rounds each step by itself, and keeps the first error.
type reckoner struct{ err api.Errno }

// kept is q rounded half away from 0, or 0 and the first error, if that may not be.
func (k *reckoner) kept(q *big.Rat) api.Fix {
	above := new(big.Rat).Add(new(big.Rat).Abs(q), big.NewRat(1, 2))
	n := new(big.Int).Quo(above.Num(), above.Denom())
	if n.Cmp(big.NewInt(1<<31)) > 0 {
		k.fail(api.ErrRange)
		return 0
	}
	if q.Sign() < 0 {
		n.Neg(n)
	}
	return api.Fix(n.Int64())
}

func (k *reckoner) fail(e api.Errno) {
	if k.err == api.OK {
		k.err = e
	}
}

// may asks by the document's words whether both numbers may be, and fails if not.
func (k *reckoner) may(a, b api.Fix) bool {
	for _, f := range []api.Fix{a, b} {
		if big.NewInt(int64(f)).CmpAbs(big.NewInt(1<<31)) > 0 {
			k.fail(api.ErrRange)
			return false
		}
	}
	return true
}

func rat(f api.Fix) *big.Rat { return big.NewRat(int64(f), 1) }

func (k *reckoner) add(a, b api.Fix) api.Fix {
	if !k.may(a, b) {
		return 0
	}
	return k.kept(new(big.Rat).Add(rat(a), rat(b)))
}

func (k *reckoner) sub(a, b api.Fix) api.Fix {
	if !k.may(a, b) {
		return 0
	}
	return k.kept(new(big.Rat).Sub(rat(a), rat(b)))
}

func (k *reckoner) mul(a, b api.Fix) api.Fix {
	if !k.may(a, b) {
		return 0
	}
	return k.kept(new(big.Rat).Mul(rat(a), big.NewRat(int64(b), 1000)))
}

func (k *reckoner) div(a, b api.Fix) api.Fix {
	if !k.may(a, b) {
		return 0
	}
	if b == 0 {
		k.fail(api.ErrArg)
		return 0
	}
	return k.kept(new(big.Rat).Mul(rat(a), big.NewRat(1000, int64(b))))
}

func wantMul(m, n api.Matrix) (api.Matrix, api.Errno) {
	k := &reckoner{}
	out := api.Matrix{
		k.add(k.mul(m[0], n[0]), k.mul(m[1], n[2])),
		k.add(k.mul(m[0], n[1]), k.mul(m[1], n[3])),
		k.add(k.mul(m[2], n[0]), k.mul(m[3], n[2])),
		k.add(k.mul(m[2], n[1]), k.mul(m[3], n[3])),
		k.add(k.add(k.mul(m[4], n[0]), k.mul(m[5], n[2])), n[4]),
		k.add(k.add(k.mul(m[4], n[1]), k.mul(m[5], n[3])), n[5]),
	}
	if k.err != api.OK {
		return api.Matrix{}, k.err
	}
	return out, api.OK
}

func wantApply(m api.Matrix, x, y api.Fix) (api.Fix, api.Fix, api.Errno) {
	k := &reckoner{}
	u := k.add(k.add(k.mul(x, m[0]), k.mul(y, m[2])), m[4])
	v := k.add(k.add(k.mul(x, m[1]), k.mul(y, m[3])), m[5])
	if k.err != api.OK {
		return 0, 0, k.err
	}
	return u, v, api.OK
}

func wantNorm(r api.Rect) api.Rect {
	if r.X0 > r.X1 {
		r.X0, r.X1 = r.X1, r.X0
	}
	if r.Y0 > r.Y1 {
		r.Y0, r.Y1 = r.Y1, r.Y0
	}
	return r
}

func wantSize(r api.Rect) (api.Fix, api.Fix, api.Errno) {
	k := &reckoner{}
	n := wantNorm(r)
	w, h := k.sub(n.X1, n.X0), k.sub(n.Y1, n.Y0)
	if k.err != api.OK {
		return 0, 0, k.err
	}
	return w, h, api.OK
}

// within: do the numbers of a place lie in r, its sides being part of it?
func within(r api.Rect, x, y api.Fix) bool {
	return r.X0 <= x && x <= r.X1 && r.Y0 <= y && y <= r.Y1
}

func wantBounds(m api.Matrix, r api.Rect) (api.Rect, api.Errno) {
	n := wantNorm(r)
	var xs, ys []api.Fix
	for _, c := range [][2]api.Fix{{n.X0, n.Y0}, {n.X1, n.Y0}, {n.X0, n.Y1}, {n.X1, n.Y1}} {
		x, y, e := wantApply(m, c[0], c[1])
		if e != api.OK {
			return api.Rect{}, e
		}
		xs, ys = append(xs, x), append(ys, y)
	}
	out := api.Rect{X0: xs[0], Y0: ys[0], X1: xs[0], Y1: ys[0]}
	for i := range xs {
		if xs[i] < out.X0 {
			out.X0 = xs[i]
		}
		if xs[i] > out.X1 {
			out.X1 = xs[i]
		}
		if ys[i] < out.Y0 {
			out.Y0 = ys[i]
		}
		if ys[i] > out.Y1 {
			out.Y1 = ys[i]
		}
	}
	return out, api.OK
}

func wantPlace(box api.Rect, m api.Matrix, to api.Rect) (api.Matrix, api.Errno) {
	t, e := wantBounds(m, box)
	if e != api.OK {
		return api.Matrix{}, e
	}
	w, h, e := wantSize(t)
	if e != api.OK {
		return api.Matrix{}, e
	}
	u := wantNorm(to)
	v, g, e := wantSize(u)
	if e != api.OK {
		return api.Matrix{}, e
	}
	k := &reckoner{}
	sx, sy := k.div(v, w), k.div(g, h)
	out := api.Matrix{sx, 0, 0, sy, k.sub(u.X0, k.mul(t.X0, sx)), k.sub(u.Y0, k.mul(t.Y0, sy))}
	if k.err != api.OK {
		return api.Matrix{}, k.err
	}
	return out, api.OK
}

func checkMul(t *testing.T, m, n, want api.Matrix, e api.Errno) {
	t.Helper()
	if got, err := Mul(m, n); got != want || err != e {
		t.Errorf("Mul(%d, %d): %d %v, not %d %v", m, n, got, err, want, e)
	}
}

func checkApply(t *testing.T, m api.Matrix, x, y, u, v api.Fix, e api.Errno) {
	t.Helper()
	if gu, gv, err := Apply(m, x, y); gu != u || gv != v || err != e {
		t.Errorf("Apply(%d, %d, %d): %d %d %v, not %d %d %v", m, x, y, gu, gv, err, u, v, e)
	}
}

func checkSize(t *testing.T, r api.Rect, w, h api.Fix, e api.Errno) {
	t.Helper()
	if gw, gh, err := Size(r); gw != w || gh != h || err != e {
		t.Errorf("Size(%d): %d %d %v, not %d %d %v", r, gw, gh, err, w, h, e)
	}
}

func checkBounds(t *testing.T, m api.Matrix, r, want api.Rect, e api.Errno) {
	t.Helper()
	if got, err := Bounds(m, r); got != want || err != e {
		t.Errorf("Bounds(%d, %d): %d %v, not %d %v", m, r, got, err, want, e)
	}
}

// checkMeet wants no inside, if want is the zero value.
func checkMeet(t *testing.T, r, s, want api.Rect) {
	t.Helper()
	some := want != api.Rect{}
	if got, ok := Meet(r, s); got != want || ok != some {
		t.Errorf("Meet(%d, %d): %d %t, not %d %t", r, s, got, ok, want, some)
	}
}

// checkInset wants no inside, if want is the zero value.
func checkInset(t *testing.T, r api.Rect, d api.Fix, want api.Rect) {
	t.Helper()
	some := want != api.Rect{}
	if got, ok := Inset(r, d); got != want || ok != some {
		t.Errorf("Inset(%d, %d): %d %t, not %d %t", r, d, got, ok, want, some)
	}
}

func checkPlace(t *testing.T, box api.Rect, m api.Matrix, to api.Rect, want api.Matrix, e api.Errno) {
	t.Helper()
	if got, err := Place(box, m, to); got != want || err != e {
		t.Errorf("Place(%d, %d, %d): %d %v, not %d %v", box, m, to, got, err, want, e)
	}
}

func unit() api.Matrix { return api.Matrix{1000, 0, 0, 1000, 0, 0} }

// turns are a rectangle with its corners in each order.
func turns(r api.Rect) []api.Rect {
	return []api.Rect{r, {X0: r.X1, Y0: r.Y0, X1: r.X0, Y1: r.Y1}, {X0: r.X0, Y0: r.Y1, X1: r.X1, Y1: r.Y0}, {X0: r.X1, Y0: r.Y1, X1: r.X0, Y1: r.Y0}}
}

// withNumber is r with one of its four numbers changed.
func withNumber(r api.Rect, i int, f api.Fix) api.Rect {
	l := [4]api.Fix{r.X0, r.Y0, r.X1, r.Y1}
	l[i] = f
	return api.Rect{X0: l[0], Y0: l[1], X1: l[2], Y1: l[3]}
}

// P2.1

func TestUnit(t *testing.T) {
	if Unit() != unit() {
		t.Errorf("Unit: %d", Unit())
	}
}

func TestMulTold(t *testing.T) {
	m := api.Matrix{2000, 3000, 5000, 7000, 11000, 13000}
	n := api.Matrix{17000, 19000, 23000, 29000, 31000, 37000}
	checkMul(t, m, n, api.Matrix{103000, 125000, 246000, 298000, 517000, 623000}, api.OK)
	checkMul(t, n, m, api.Matrix{129000, 184000, 191000, 272000, 258000, 365000}, api.OK)
	// First moved, then made greater; and the other way round.
	move, grow := api.Matrix{1000, 0, 0, 1000, 10000, 20000}, api.Matrix{2000, 0, 0, 3000, 0, 0}
	checkMul(t, move, grow, api.Matrix{2000, 0, 0, 3000, 20000, 60000}, api.OK)
	checkMul(t, grow, move, api.Matrix{2000, 0, 0, 3000, 10000, 20000}, api.OK)
	// A quarter turn, twice.
	quarter := api.Matrix{0, 1000, -1000, 0, 0, 0}
	checkMul(t, quarter, quarter, api.Matrix{-1000, 0, 0, -1000, 0, 0}, api.OK)
}

// Each product is rounded by itself: 0.5 + 0.5 thousandths are 2, not 1.
func TestMulRoundsEachProduct(t *testing.T) {
	half := api.Matrix{500, 500, 500, 500, 0, 0}
	checkMul(t, api.Matrix{1, 1, 1, 1, 1, 1}, half, api.Matrix{2, 2, 2, 2, 2, 2}, api.OK)
	checkMul(t, api.Matrix{-1, -1, -1, -1, -1, -1}, half, api.Matrix{-2, -2, -2, -2, -2, -2}, api.OK)
	checkMul(t, api.Matrix{1, 0, 1, 0, 1, 0}, api.Matrix{499, 499, 0, 0, 0, 0}, api.Matrix{}, api.OK)
	checkApply(t, half, 1, 1, 2, 2, api.OK)
	checkApply(t, half, -1, -1, -2, -2, api.OK)
}

func TestMulRange(t *testing.T) {
	u := unit()
	full := api.Matrix{most, -most, -most, most, most, -most}
	checkMul(t, full, u, full, api.OK)
	// A sum of products that is just in the range, and one beyond, in each place.
	for i := range 6 {
		m, n := api.Matrix{}, api.Matrix{}
		row, col := i/2*2, i%2
		m[row], m[row+1] = most-1, 1
		n[col], n[2+col] = 1000, 1000
		want := api.Matrix{}
		want[i] = most
		checkMul(t, m, n, want, api.OK)
		m[row+1] = 2
		checkMul(t, m, n, api.Matrix{}, api.ErrRange)
	}
	// A product beyond the range, though the sum would be 0.
	checkMul(t, api.Matrix{most, -most, 0, 0, 0, 0}, api.Matrix{1001, 0, 1001, 0, 0, 0}, api.Matrix{}, api.ErrRange)
	// The products' sum is beyond the range, though e or f would bring it back: the sum in brackets comes first.
	checkMul(t, api.Matrix{0, 0, 0, 0, most, 1}, api.Matrix{1000, 0, 1000, 0, -1, 0}, api.Matrix{}, api.ErrRange)
	checkMul(t, api.Matrix{0, 0, 0, 0, most, 1}, api.Matrix{0, 1000, 0, 1000, 0, -1}, api.Matrix{}, api.ErrRange)
	// And beyond it by e or f alone.
	checkMul(t, api.Matrix{0, 0, 0, 0, most - 1, 0}, api.Matrix{1000, 0, 0, 0, 1, 0}, api.Matrix{0, 0, 0, 0, most, 0}, api.OK)
	checkMul(t, api.Matrix{0, 0, 0, 0, most, 0}, api.Matrix{1000, 0, 0, 0, 1, 0}, api.Matrix{}, api.ErrRange)
	checkMul(t, api.Matrix{0, 0, 0, 0, -most, 0}, api.Matrix{0, 1000, 0, 0, 0, -1}, api.Matrix{}, api.ErrRange)
}

// A number that may not be is refused in each place, also where it is multiplied by 0.
func TestMulWrong(t *testing.T) {
	for i := range 6 {
		for _, f := range wrongs() {
			for _, base := range []api.Matrix{{}, unit(), {1, 2, 3, 4, 5, 6}} {
				wrong := base
				wrong[i] = f
				checkMul(t, wrong, base, api.Matrix{}, api.ErrRange)
				checkMul(t, base, wrong, api.Matrix{}, api.ErrRange)
				checkMul(t, wrong, api.Matrix{}, api.Matrix{}, api.ErrRange)
				checkMul(t, api.Matrix{}, wrong, api.Matrix{}, api.ErrRange)
			}
		}
	}
}

func TestApplyTold(t *testing.T) {
	m := api.Matrix{2000, 3000, 5000, 7000, 11000, 13000}
	checkApply(t, m, 1000, 0, 13000, 16000, api.OK)
	checkApply(t, m, 0, 1000, 16000, 20000, api.OK)
	checkApply(t, m, 0, 0, 11000, 13000, api.OK)
	checkApply(t, m, -1500, 2500, 20500, 26000, api.OK)
	checkApply(t, Unit(), most, -most, most, -most, api.OK)
	checkApply(t, api.Matrix{}, most, -most, 0, 0, api.OK)
}

func TestApplyRange(t *testing.T) {
	u := unit()
	u[4], u[5] = 1, -1
	checkApply(t, u, most-1, 1-most, most, -most, api.OK)
	checkApply(t, u, most, 0, 0, 0, api.ErrRange)
	checkApply(t, u, 0, -most, 0, 0, api.ErrRange)
	checkApply(t, api.Matrix{1000, 0, 1000, 0, -1, 0}, most, 1, 0, 0, api.ErrRange)
	checkApply(t, api.Matrix{0, 1000, 0, 1000, 0, -1}, most, 1, 0, 0, api.ErrRange)
	checkApply(t, api.Matrix{1001, 0, 0, 0, 0, 0}, most, 0, 0, 0, api.ErrRange)
	checkApply(t, api.Matrix{0, 0, 0, 1001, 0, 0}, 0, -most, 0, 0, api.ErrRange)
	for _, f := range wrongs() {
		checkApply(t, unit(), f, 0, 0, 0, api.ErrRange)
		checkApply(t, unit(), 0, f, 0, 0, api.ErrRange)
		checkApply(t, api.Matrix{}, f, 0, 0, 0, api.ErrRange)
		checkApply(t, api.Matrix{}, 0, f, 0, 0, api.ErrRange)
		for i := range 6 {
			m := api.Matrix{}
			m[i] = f
			checkApply(t, m, 0, 0, 0, 0, api.ErrRange)
			checkApply(t, m, 1, 1, 0, 0, api.ErrRange)
		}
	}
}

// P2.2

func TestNorm(t *testing.T) {
	want := api.Rect{X0: 1, Y0: 2, X1: 3, Y1: 4}
	for _, r := range turns(want) {
		if got := Norm(r); got != want {
			t.Errorf("Norm(%d): %d", r, got)
		}
	}
	for _, r := range []api.Rect{{}, {X0: 5, Y0: 5, X1: 5, Y1: 5}, {X0: -most, Y0: -most, X1: most, Y1: most}, {X0: math.MinInt, Y0: -most - 1, X1: math.MaxInt, Y1: most + 1}} {
		for _, s := range turns(r) {
			if got := Norm(s); got != r {
				t.Errorf("Norm(%d): %d", s, got)
			}
		}
	}
	if got, want := Norm(api.Rect{X0: 9, Y0: -9, X1: -3, Y1: 3}), (api.Rect{X0: -3, Y0: -9, X1: 9, Y1: 3}); got != want {
		t.Errorf("Norm: %d, not %d", got, want)
	}
}

func TestSize(t *testing.T) {
	for _, r := range turns(api.Rect{X0: -1000, Y0: 2000, X1: 3000, Y1: 12000}) {
		checkSize(t, r, 4000, 10000, api.OK)
	}
	checkSize(t, api.Rect{}, 0, 0, api.OK)
	checkSize(t, api.Rect{X0: 7, Y0: 7, X1: 7, Y1: 8}, 0, 1, api.OK)
	for _, r := range turns(api.Rect{X0: -most, Y0: 0, X1: 0, Y1: most}) {
		checkSize(t, r, most, most, api.OK)
	}
	for _, r := range turns(api.Rect{X0: -most, Y0: 0, X1: 1, Y1: 5}) {
		checkSize(t, r, 0, 0, api.ErrRange)
	}
	for _, r := range turns(api.Rect{X0: 0, Y0: -1, X1: 5, Y1: most}) {
		checkSize(t, r, 0, 0, api.ErrRange)
	}
	for i := range 4 {
		for _, f := range wrongs() {
			checkSize(t, withNumber(api.Rect{}, i, f), 0, 0, api.ErrRange)
			// Both sides beyond the range by as much: their difference would be 0.
			checkSize(t, withNumber(withNumber(api.Rect{}, i, f), (i+2)%4, f), 0, 0, api.ErrRange)
		}
	}
}

func TestMeetTold(t *testing.T) {
	a := api.Rect{X0: 0, Y0: 0, X1: 10, Y1: 20}
	for _, x := range []struct{ s, want api.Rect }{
		{a, a},
		{api.Rect{X0: 5, Y0: 5, X1: 15, Y1: 25}, api.Rect{X0: 5, Y0: 5, X1: 10, Y1: 20}},
		{api.Rect{X0: -5, Y0: -5, X1: 5, Y1: 5}, api.Rect{X0: 0, Y0: 0, X1: 5, Y1: 5}},
		{api.Rect{X0: -5, Y0: 15, X1: 5, Y1: 25}, api.Rect{X0: 0, Y0: 15, X1: 5, Y1: 20}},
		{api.Rect{X0: 2, Y0: 3, X1: 4, Y1: 5}, api.Rect{X0: 2, Y0: 3, X1: 4, Y1: 5}},
		{api.Rect{X0: -100, Y0: -100, X1: 100, Y1: 100}, a},
		{api.Rect{X0: -100, Y0: 7, X1: 100, Y1: 9}, api.Rect{X0: 0, Y0: 7, X1: 10, Y1: 9}},
		{api.Rect{X0: 9, Y0: 19, X1: 30, Y1: 30}, api.Rect{X0: 9, Y0: 19, X1: 10, Y1: 20}},
		// They only touch: at a side, at a corner.
		{api.Rect{X0: 10, Y0: 0, X1: 20, Y1: 20}, api.Rect{}},
		{api.Rect{X0: -10, Y0: 0, X1: 0, Y1: 20}, api.Rect{}},
		{api.Rect{X0: 0, Y0: 20, X1: 10, Y1: 30}, api.Rect{}},
		{api.Rect{X0: 0, Y0: -10, X1: 10, Y1: 0}, api.Rect{}},
		{api.Rect{X0: 10, Y0: 20, X1: 30, Y1: 30}, api.Rect{}},
		// They are apart, in one way or both.
		{api.Rect{X0: 11, Y0: 0, X1: 20, Y1: 20}, api.Rect{}},
		{api.Rect{X0: 0, Y0: 21, X1: 10, Y1: 30}, api.Rect{}},
		{api.Rect{X0: -20, Y0: -20, X1: -10, Y1: -10}, api.Rect{}},
		// One has no inside.
		{api.Rect{X0: 5, Y0: 5, X1: 5, Y1: 15}, api.Rect{}},
		{api.Rect{X0: 5, Y0: 5, X1: 8, Y1: 5}, api.Rect{}},
		{api.Rect{X0: 5, Y0: 5, X1: 5, Y1: 5}, api.Rect{}},
	} {
		for _, r := range turns(a) {
			for _, s := range turns(x.s) {
				checkMeet(t, r, s, x.want)
				checkMeet(t, s, r, x.want)
			}
		}
	}
	checkMeet(t, api.Rect{}, api.Rect{}, api.Rect{})
	all := api.Rect{X0: -most, Y0: -most, X1: most, Y1: most}
	checkMeet(t, all, all, all)
	checkMeet(t, all, a, a)
	// The document refuses no number here: what may not be is only held against others.
	beyond := api.Rect{X0: math.MinInt, Y0: math.MinInt, X1: math.MaxInt, Y1: math.MaxInt}
	checkMeet(t, beyond, a, a)
	checkMeet(t, beyond, beyond, beyond)
}

func TestInsetTold(t *testing.T) {
	a := api.Rect{X0: 0, Y0: 10, X1: 20, Y1: 50}
	for _, r := range turns(a) {
		checkInset(t, r, 0, a)
		checkInset(t, r, 3, api.Rect{X0: 3, Y0: 13, X1: 17, Y1: 47})
		checkInset(t, r, -3, api.Rect{X0: -3, Y0: 7, X1: 23, Y1: 53})
		checkInset(t, r, 9, api.Rect{X0: 9, Y0: 19, X1: 11, Y1: 41})
		// Just half a side, and more.
		checkInset(t, r, 10, api.Rect{})
		checkInset(t, r, 11, api.Rect{})
		checkInset(t, r, 20, api.Rect{})
		checkInset(t, r, 25, api.Rect{})
		checkInset(t, r, most/2, api.Rect{})
	}
	for _, r := range turns(api.Rect{X0: 0, Y0: 0, X1: 50, Y1: 20}) {
		checkInset(t, r, 10, api.Rect{})
		checkInset(t, r, 9, api.Rect{X0: 9, Y0: 9, X1: 41, Y1: 11})
	}
	// An odd side: 1 is left of it.
	checkInset(t, api.Rect{X0: 0, Y0: 0, X1: 3, Y1: 3}, 1, api.Rect{X0: 1, Y0: 1, X1: 2, Y1: 2})
	checkInset(t, api.Rect{X0: 0, Y0: 0, X1: 3, Y1: 3}, 2, api.Rect{})
}

// Outwards, what had no inside has one; it is asked at the end.
func TestInsetWithoutInside(t *testing.T) {
	dot := api.Rect{X0: 5, Y0: 5, X1: 5, Y1: 5}
	checkInset(t, dot, 0, api.Rect{})
	checkInset(t, dot, 1, api.Rect{})
	checkInset(t, dot, -1, api.Rect{X0: 4, Y0: 4, X1: 6, Y1: 6})
	line := api.Rect{X0: 5, Y0: 0, X1: 5, Y1: 9}
	checkInset(t, line, 0, api.Rect{})
	checkInset(t, line, -1, api.Rect{X0: 4, Y0: -1, X1: 6, Y1: 10})
	checkInset(t, api.Rect{X0: 0, Y0: 5, X1: 9, Y1: 5}, 0, api.Rect{})
}

func TestInsetRange(t *testing.T) {
	all := api.Rect{X0: -most, Y0: -most, X1: most, Y1: most}
	checkInset(t, all, 0, all)
	checkInset(t, all, 1, api.Rect{X0: 1 - most, Y0: 1 - most, X1: most - 1, Y1: most - 1})
	checkInset(t, all, -1, api.Rect{})
	checkInset(t, all, most-1, api.Rect{X0: -1, Y0: -1, X1: 1, Y1: 1})
	checkInset(t, all, most, api.Rect{})
	checkInset(t, api.Rect{}, -most, all)
	// One side alone would go beyond.
	for i := range 4 {
		at := most
		if i < 2 {
			at = -most
		}
		r := withNumber(api.Rect{X0: -9, Y0: -9, X1: 9, Y1: 9}, i, at)
		checkInset(t, r, 0, r)
		checkInset(t, r, -1, api.Rect{})
	}
	for _, f := range wrongs() {
		checkInset(t, api.Rect{}, f, api.Rect{})
		checkInset(t, all, f, api.Rect{})
		for i := range 4 {
			r := withNumber(api.Rect{X0: 0, Y0: 0, X1: 9, Y1: 9}, i, f)
			checkInset(t, r, 0, api.Rect{})
			// Moved so, the side would stand at a number that may be.
			checkInset(t, r, 1, api.Rect{})
			checkInset(t, r, -1, api.Rect{})
		}
	}
}

// P2.3

func TestBoundsTold(t *testing.T) {
	a := api.Rect{X0: 0, Y0: 0, X1: 10000, Y1: 20000}
	for _, r := range turns(a) {
		checkBounds(t, Unit(), r, a, api.OK)
		checkBounds(t, api.Matrix{2000, 0, 0, 3000, 1000, 2000}, r, api.Rect{X0: 1000, Y0: 2000, X1: 21000, Y1: 62000}, api.OK)
		// A quarter turn, half a turn, a mirror.
		checkBounds(t, api.Matrix{0, 1000, -1000, 0, 0, 0}, r, api.Rect{X0: -20000, Y0: 0, X1: 0, Y1: 10000}, api.OK)
		checkBounds(t, api.Matrix{-1000, 0, 0, -1000, 0, 0}, r, api.Rect{X0: -10000, Y0: -20000, X1: 0, Y1: 0}, api.OK)
		checkBounds(t, api.Matrix{-1000, 0, 0, 1000, 5000, 0}, r, api.Rect{X0: -5000, Y0: 0, X1: 5000, Y1: 20000}, api.OK)
		// Slanted: each of the four corners makes one of the sides.
		checkBounds(t, api.Matrix{1000, 1000, -1000, 1000, 0, 0}, r, api.Rect{X0: -20000, Y0: 0, X1: 10000, Y1: 30000}, api.OK)
		checkBounds(t, api.Matrix{1000, -1000, 1000, 1000, 0, 0}, r, api.Rect{X0: 0, Y0: -10000, X1: 30000, Y1: 20000}, api.OK)
		checkBounds(t, api.Matrix{0, 0, 0, 0, 7, 8}, r, api.Rect{X0: 7, Y0: 8, X1: 7, Y1: 8}, api.OK)
	}
	// Far from 0, so that 0 is no side of what is told.
	checkBounds(t, Unit(), api.Rect{X0: 5, Y0: 6, X1: 7, Y1: 8}, api.Rect{X0: 5, Y0: 6, X1: 7, Y1: 8}, api.OK)
	checkBounds(t, Unit(), api.Rect{X0: -7, Y0: -8, X1: -5, Y1: -6}, api.Rect{X0: -7, Y0: -8, X1: -5, Y1: -6}, api.OK)
	checkBounds(t, Unit(), api.Rect{X0: 5, Y0: 6, X1: 5, Y1: 6}, api.Rect{X0: 5, Y0: 6, X1: 5, Y1: 6}, api.OK)
}

func TestBoundsRange(t *testing.T) {
	all := api.Rect{X0: -most, Y0: -most, X1: most, Y1: most}
	checkBounds(t, Unit(), all, all, api.OK)
	checkBounds(t, api.Matrix{1000, 0, 0, 1000, 1, 0}, all, api.Rect{}, api.ErrRange)
	// One corner alone goes beyond: each of the four.
	for _, s := range [][2]api.Fix{{1000, 1000}, {-1000, 1000}, {1000, -1000}, {-1000, -1000}} {
		m := api.Matrix{s[0], 0, s[1], 0, most - 20, 0}
		r := api.Rect{X0: -10, Y0: -10, X1: 10, Y1: 10}
		checkBounds(t, m, r, api.Rect{X0: most - 40, Y0: 0, X1: most, Y1: 0}, api.OK)
		m[4]++
		checkBounds(t, m, r, api.Rect{}, api.ErrRange)
		m = api.Matrix{0, s[0], 0, s[1], 0, 20 - most}
		checkBounds(t, m, r, api.Rect{X0: 0, Y0: -most, X1: 0, Y1: 40 - most}, api.OK)
		m[5]--
		checkBounds(t, m, r, api.Rect{}, api.ErrRange)
	}
	for _, f := range wrongs() {
		for i := range 6 {
			m := Unit()
			m[i] = f
			checkBounds(t, m, api.Rect{}, api.Rect{}, api.ErrRange)
			checkBounds(t, m, api.Rect{X0: 1, Y0: 2, X1: 3, Y1: 4}, api.Rect{}, api.ErrRange)
		}
		for i := range 4 {
			checkBounds(t, Unit(), withNumber(api.Rect{}, i, f), api.Rect{}, api.ErrRange)
			checkBounds(t, api.Matrix{}, withNumber(api.Rect{}, i, f), api.Rect{}, api.ErrRange)
		}
	}
}

// P2.4

func TestPlaceTold(t *testing.T) {
	box := api.Rect{X0: 0, Y0: 0, X1: 10000, Y1: 20000}
	to := api.Rect{X0: 100000, Y0: 100000, X1: 120000, Y1: 120000}
	for _, b := range turns(box) {
		for _, r := range turns(to) {
			checkPlace(t, b, Unit(), r, api.Matrix{2000, 0, 0, 1000, 100000, 100000}, api.OK)
			// Turned by a quarter the box is 20 wide and 10 high, from -20 on.
			checkPlace(t, b, api.Matrix{0, 1000, -1000, 0, 0, 0}, r, api.Matrix{1000, 0, 0, 2000, 120000, 100000}, api.OK)
			checkPlace(t, b, api.Matrix{500, 0, 0, 500, 3000, 4000}, r, api.Matrix{4000, 0, 0, 2000, 88000, 92000}, api.OK)
		}
	}
	// A goal without an inside: it may be, as only w and h are divided by.
	checkPlace(t, box, Unit(), api.Rect{X0: 5, Y0: 6, X1: 5, Y1: 6}, api.Matrix{0, 0, 0, 0, 5, 6}, api.OK)
	checkPlace(t, box, Unit(), box, Unit(), api.OK)
	// A third of a unit is rounded: 333 and 667 thousandths.
	third := api.Rect{X0: 3000, Y0: 3000, X1: 6000, Y1: 6000}
	checkPlace(t, third, Unit(), api.Rect{X0: 0, Y0: 0, X1: 1000, Y1: 2000}, api.Matrix{333, 0, 0, 667, -999, -2001}, api.OK)
}

// The chapter's example, by what it does: the box's corners go to the goal's.
func TestPlaceBrings(t *testing.T) {
	box, to := api.Rect{X0: 1000, Y0: 2000, X1: 11000, Y1: 22000}, api.Rect{X0: 100000, Y0: 100000, X1: 120000, Y1: 110000}
	for _, m := range []api.Matrix{Unit(), {0, 1000, -1000, 0, 5000, 6000}, {-2000, 0, 0, 1000, 0, 7000}} {
		p, e := Place(box, m, to)
		if e != api.OK {
			t.Fatalf("Place by %d: %v", m, e)
		}
		whole, e := Mul(m, p)
		if e != api.OK {
			t.Fatalf("Mul: %v", e)
		}
		checkBounds(t, whole, box, to, api.OK)
	}
}

func TestPlaceErrors(t *testing.T) {
	good := api.Rect{X0: 0, Y0: 0, X1: 1000, Y1: 1000}
	flat := api.Rect{X0: 0, Y0: 0, X1: 1000, Y1: 0}
	thin := api.Rect{X0: 0, Y0: 0, X1: 0, Y1: 1000}
	wide := api.Rect{X0: -most, Y0: 0, X1: 1, Y1: 1000}
	for _, x := range []struct {
		name    string
		box, to api.Rect
		m       api.Matrix
		e       api.Errno
	}{
		{"w 0", thin, good, unit(), api.ErrArg},
		{"h 0", flat, good, unit(), api.ErrArg},
		{"both 0", api.Rect{}, good, unit(), api.ErrArg},
		{"all 0", api.Rect{}, api.Rect{}, unit(), api.ErrArg},
		{"w and h 0 by the matrix", good, good, api.Matrix{}, api.ErrArg},
		{"w 0 by the matrix", good, good, api.Matrix{0, 0, 0, 1000, 0, 0}, api.ErrArg},
		{"h 0 by the matrix", good, good, api.Matrix{1000, 0, 0, 0, 0, 0}, api.ErrArg},
		{"t beyond the range", api.Rect{X0: 0, Y0: 0, X1: most, Y1: 1000}, good, api.Matrix{1001, 0, 0, 1000, 0, 0}, api.ErrRange},
		{"t too wide", wide, good, unit(), api.ErrRange},
		{"t too high", api.Rect{X0: 0, Y0: -1, X1: 1000, Y1: most}, good, unit(), api.ErrRange},
		{"u too wide", good, wide, unit(), api.ErrRange},
		{"u too high", good, api.Rect{X0: 0, Y0: -1, X1: 1000, Y1: most}, unit(), api.ErrRange},
		{"sx too great", api.Rect{X0: 0, Y0: 0, X1: 1, Y1: 1000}, api.Rect{X0: 0, Y0: 0, X1: most, Y1: 1000}, unit(), api.ErrRange},
		{"sy too great", api.Rect{X0: 0, Y0: 0, X1: 1000, Y1: 1}, api.Rect{X0: 0, Y0: 0, X1: 1000, Y1: most}, unit(), api.ErrRange},
		{"t.X0 sx too great", api.Rect{X0: most - 1000, Y0: 0, X1: most, Y1: 1000}, api.Rect{X0: 0, Y0: 0, X1: 2000, Y1: 1000}, unit(), api.ErrRange},
		{"t.Y0 sy too great", api.Rect{X0: 0, Y0: most - 1000, X1: 1000, Y1: most}, api.Rect{X0: 0, Y0: 0, X1: 1000, Y1: 2000}, unit(), api.ErrRange},
		{"u.X0 - t.X0 sx too low", api.Rect{X0: most - 1000, Y0: 0, X1: most, Y1: 1000}, api.Rect{X0: -1001, Y0: 0, X1: -1, Y1: 1000}, unit(), api.ErrRange},
		{"u.Y0 - t.Y0 sy too low", api.Rect{X0: 0, Y0: most - 1000, X1: 1000, Y1: most}, api.Rect{X0: 0, Y0: -1001, X1: 1000, Y1: -1}, unit(), api.ErrRange},
		// Which error comes first.
		{"t beyond the range, w 0", api.Rect{X0: most, Y0: 0, X1: most, Y1: 0}, good, api.Matrix{1000, 0, 0, 1000, 1, 0}, api.ErrRange},
		{"t too high, w 0", api.Rect{X0: 0, Y0: -1, X1: 0, Y1: most}, good, unit(), api.ErrRange},
		{"u too wide, w and h 0", api.Rect{}, wide, unit(), api.ErrRange},
		{"u too high, w 0", thin, api.Rect{X0: 0, Y0: -1, X1: 1000, Y1: most}, unit(), api.ErrRange},
		{"sx too great, h 0", api.Rect{X0: 0, Y0: 0, X1: 1, Y1: 0}, api.Rect{X0: 0, Y0: 0, X1: most, Y1: 1000}, unit(), api.ErrRange},
		{"w 0, sy too great", api.Rect{X0: 0, Y0: 0, X1: 0, Y1: 1}, api.Rect{X0: 0, Y0: 0, X1: 1000, Y1: most}, unit(), api.ErrArg},
		{"h 0, t.X0 sx too great", api.Rect{X0: most - 1000, Y0: 0, X1: most, Y1: 0}, api.Rect{X0: 0, Y0: 0, X1: 2000, Y1: 1000}, unit(), api.ErrArg},
	} {
		if got, e := Place(x.box, x.m, x.to); got != (api.Matrix{}) || e != x.e {
			t.Errorf("%s: %d %v, not %v", x.name, got, e, x.e)
		}
	}
}

func TestPlaceRange(t *testing.T) {
	// The greatest box and goal that may be, and e and f just in the range.
	half := api.Rect{X0: 0, Y0: -most, X1: most, Y1: 0}
	checkPlace(t, half, Unit(), half, Unit(), api.OK)
	checkPlace(t, api.Rect{X0: most - 1000, Y0: most - 1000, X1: most, Y1: most}, Unit(), api.Rect{X0: -1000, Y0: -1000, X1: 0, Y1: 0}, api.Matrix{1000, 0, 0, 1000, -most, -most}, api.OK)
}

func TestPlaceWrong(t *testing.T) {
	good := api.Rect{X0: 0, Y0: 0, X1: 1000, Y1: 1000}
	for _, f := range wrongs() {
		for i := range 4 {
			checkPlace(t, withNumber(good, i, f), Unit(), good, api.Matrix{}, api.ErrRange)
			checkPlace(t, good, Unit(), withNumber(good, i, f), api.Matrix{}, api.ErrRange)
			// Ahead of w or h 0.
			checkPlace(t, withNumber(api.Rect{}, i, f), Unit(), good, api.Matrix{}, api.ErrRange)
			checkPlace(t, api.Rect{}, Unit(), withNumber(good, i, f), api.Matrix{}, api.ErrRange)
		}
		for i := range 6 {
			m := Unit()
			m[i] = f
			checkPlace(t, good, m, good, api.Matrix{}, api.ErrRange)
			checkPlace(t, api.Rect{}, m, good, api.Matrix{}, api.ErrRange)
		}
	}
}

// P2.5

func TestUnitChangesNothing(t *testing.T) {
	r := rand.New(rand.NewSource(1))
	for range 5000 {
		m := api.Matrix{number(r), number(r), number(r), number(r), number(r), number(r)}
		checkMul(t, m, Unit(), m, api.OK)
		checkMul(t, Unit(), m, m, api.OK)
	}
	for i := range 6 {
		for _, f := range []api.Fix{most, -most, most - 1, 1, -1} {
			m := api.Matrix{}
			m[i] = f
			checkMul(t, m, Unit(), m, api.OK)
			checkMul(t, Unit(), m, m, api.OK)
		}
	}
}

// liesIn: is r, as it is told, within s?
func liesIn(r, s api.Rect) bool {
	n := wantNorm(s)
	return within(n, r.X0, r.Y0) && within(n, r.X1, r.Y1)
}

func TestMetLiesInBoth(t *testing.T) {
	r := rand.New(rand.NewSource(2))
	small := func() api.Rect {
		return api.Rect{X0: api.Fix(r.Intn(8)), Y0: api.Fix(r.Intn(8)), X1: api.Fix(r.Intn(8)), Y1: api.Fix(r.Intn(8))}
	}
	for range 20000 {
		a, b := small(), small()
		got, ok := Meet(a, b)
		if ok && (!liesIn(got, a) || !liesIn(got, b) || got.X0 >= got.X1 || got.Y0 >= got.Y1) {
			t.Errorf("Meet(%d, %d): %d", a, b, got)
		}
		// Small enough that each square of side 1 can be asked: those in both are those in what is met.
		for i := range 64 {
			s := api.Rect{X0: api.Fix(i % 8), Y0: api.Fix(i / 8), X1: api.Fix(i%8 + 1), Y1: api.Fix(i/8 + 1)}
			if both := liesIn(s, a) && liesIn(s, b); both != (ok && liesIn(s, got)) {
				t.Errorf("Meet(%d, %d): %d %t, at %d", a, b, got, ok, s)
			}
		}
	}
}

// All promises, against the document's formulas reckoned in fractions.

// number is one that may be, of few bits as often as of many, so that answers that may be are common.
func number(r *rand.Rand) api.Fix {
	f := api.Fix(r.Int63n(1 << r.Intn(32)))
	if r.Intn(2) == 0 {
		return -f
	}
	return f
}

// someNumber is one that may not be, or at an edge, at times.
func someNumber(r *rand.Rand) api.Fix {
	if r.Intn(12) == 0 {
		l := edges()
		return l[r.Intn(len(l))]
	}
	return number(r)
}

func someRect(r *rand.Rand) api.Rect {
	return api.Rect{X0: someNumber(r), Y0: someNumber(r), X1: someNumber(r), Y1: someNumber(r)}
}

func someMatrix(r *rand.Rand) api.Matrix {
	m := api.Matrix{}
	for i := range m {
		m[i] = someNumber(r)
	}
	return m
}

func checkAll(t *testing.T, m, n api.Matrix, a, b api.Rect) {
	t.Helper()
	product, e := wantMul(m, n)
	checkMul(t, m, n, product, e)
	u, v, e := wantApply(m, a.X0, a.Y0)
	checkApply(t, m, a.X0, a.Y0, u, v, e)
	if got := Norm(a); got != wantNorm(a) {
		t.Errorf("Norm(%d): %d", a, got)
	}
	w, h, e := wantSize(a)
	checkSize(t, a, w, h, e)
	around, e := wantBounds(m, a)
	checkBounds(t, m, a, around, e)
	place, e := wantPlace(a, m, b)
	checkPlace(t, a, m, b, place, e)
	checkMeet(t, a, b, wantMeet(a, b))
	checkInset(t, a, b.X0, wantInset(a, b.X0))
}

// middle are the second and third of two ends of a line and two of another: what both have together, if they have anything.
func middle(a, b, c, d api.Fix) (api.Fix, api.Fix) {
	l := []api.Fix{a, b, c, d}
	slices.Sort(l)
	return l[1], l[2]
}

// wantMeet is the zero value, if there is nothing.
func wantMeet(r, s api.Rect) api.Rect {
	x0, x1 := middle(r.X0, r.X1, s.X0, s.X1)
	y0, y1 := middle(r.Y0, r.Y1, s.Y0, s.Y1)
	out := api.Rect{X0: x0, Y0: y0, X1: x1, Y1: y1}
	if x0 == x1 || y0 == y1 || !liesIn(out, r) || !liesIn(out, s) {
		return api.Rect{}
	}
	return out
}

// wantInset is the zero value, if there is nothing: what has an inside is never that.
func wantInset(r api.Rect, d api.Fix) api.Rect {
	k := &reckoner{}
	n := wantNorm(r)
	out := api.Rect{X0: k.add(n.X0, d), Y0: k.add(n.Y0, d), X1: k.sub(n.X1, d), Y1: k.sub(n.Y1, d)}
	if k.err != api.OK || out.X0 >= out.X1 || out.Y0 >= out.Y1 {
		return api.Rect{}
	}
	return out
}

func TestManyAgainstTheFormulas(t *testing.T) {
	r := rand.New(rand.NewSource(3))
	for range 20000 {
		checkAll(t, someMatrix(r), someMatrix(r), someRect(r), someRect(r))
	}
}

// P1

func TestNonePanics(t *testing.T) {
	l := edges()
	for _, f := range l {
		for _, g := range l {
			for _, h := range l {
				m, n := api.Matrix{f, g, h, f, g, h}, api.Matrix{h, h, g, g, f, f}
				a, b := api.Rect{X0: f, Y0: g, X1: h, Y1: f}, api.Rect{X0: h, Y0: f, X1: f, Y1: g}
				checkAll(t, m, n, a, b)
			}
		}
	}
}

func FuzzGeom(f *testing.F) {
	f.Add(0, 0, 10000, 20000, 100000, 100000, 120000, 120000, 1000, 0, 0, 1000, 0, 0)
	f.Add(0, 0, 0, 0, 1<<31, 1<<31, -1<<31, 1, 0, 1000, -1000, 0, 1<<62, -1)
	f.Fuzz(func(t *testing.T, x0, y0, x1, y1, u0, v0, u1, v1, a, b, c, d, e, g int) {
		m := api.Matrix{api.Fix(a), api.Fix(b), api.Fix(c), api.Fix(d), api.Fix(e), api.Fix(g)}
		n := api.Matrix{api.Fix(x0), api.Fix(y0), api.Fix(x1), api.Fix(y1), api.Fix(u0), api.Fix(v0)}
		box := api.Rect{X0: api.Fix(x0), Y0: api.Fix(y0), X1: api.Fix(x1), Y1: api.Fix(y1)}
		to := api.Rect{X0: api.Fix(u0), Y0: api.Fix(v0), X1: api.Fix(u1), Y1: api.Fix(v1)}
		checkAll(t, m, n, box, to)
	})
}
