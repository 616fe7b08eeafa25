package store

import (
	"math"
	"math/rand"
	"slices"
	"testing"

	"inkstand/api"
)

// P9.3

func TestPut(t *testing.T) {
	f := file("<</A 1>>", one(2, 5, "(b)"), one(4, 0, "(d)"), one(7, 9, "[1]"))
	x := obj("[/X]")
	for _, c := range []struct {
		n    int
		want []Numbered
	}{
		// At its place, with its G.
		{2, []Numbered{one(2, 5, "[/X]"), one(4, 0, "(d)"), one(7, 9, "[1]")}},
		{4, []Numbered{one(2, 5, "(b)"), one(4, 0, "[/X]"), one(7, 9, "[1]")}},
		{7, []Numbered{one(2, 5, "(b)"), one(4, 0, "(d)"), one(7, 9, "[/X]")}},
		// Ahead of the first greater one.
		{1, []Numbered{one(1, 0, "[/X]"), one(2, 5, "(b)"), one(4, 0, "(d)"), one(7, 9, "[1]")}},
		{3, []Numbered{one(2, 5, "(b)"), one(3, 0, "[/X]"), one(4, 0, "(d)"), one(7, 9, "[1]")}},
		{5, []Numbered{one(2, 5, "(b)"), one(4, 0, "(d)"), one(5, 0, "[/X]"), one(7, 9, "[1]")}},
		{6, []Numbered{one(2, 5, "(b)"), one(4, 0, "(d)"), one(6, 0, "[/X]"), one(7, 9, "[1]")}},
		// At the end.
		{8, []Numbered{one(2, 5, "(b)"), one(4, 0, "(d)"), one(7, 9, "[1]"), one(8, 0, "[/X]")}},
		{4095, []Numbered{one(2, 5, "(b)"), one(4, 0, "(d)"), one(7, 9, "[1]"), one(4095, 0, "[/X]")}},
	} {
		checkPut(t, f, c.n, x, File{L: c.want, Trailer: f.Trailer}, api.OK)
	}
	for _, n := range []int{1, 2, 4094, 4095} {
		checkPut(t, File{}, n, x, File{L: []Numbered{{N: n, O: x}}}, api.OK)
		checkPut(t, File{L: []Numbered{}, Trailer: x}, n, none, File{L: []Numbered{{N: n}}, Trailer: x}, api.OK)
	}
	// Objects of any kind.
	for _, o := range []api.Obj{none, obj("true"), obj("7.5"), ref(4), ref(99), obj("<</A 4 0 R>>"), stream("<</A 1>>", "x"), {Kind: 99, N: 7}, {Kind: api.Bool, N: -7, S: "x"}} {
		checkPut(t, f, 4, o, File{L: []Numbered{one(2, 5, "(b)"), {N: 4, O: o}, one(7, 9, "[1]")}, Trailer: f.Trailer}, api.OK)
		checkPut(t, f, 9, o, File{L: append(slices.Clone(f.L), Numbered{N: 9, O: o}), Trailer: f.Trailer}, api.OK)
	}
}

func TestPutWrong(t *testing.T) {
	f := file("<</A 1>>", one(-1, 0, "(x)"), one(0, 0, "(a)"), one(2, 5, "(b)"), one(4096, 0, "(c)"), one(9999, 0, "(d)"))
	for _, n := range []int{0, -1, -2, 4096, 4097, 9999, math.MinInt, math.MaxInt} {
		checkPut(t, f, n, obj("(x)"), File{}, api.ErrArg)
		checkPut(t, File{}, n, none, File{}, api.ErrArg)
	}
	checkPut(t, f, 1, obj("7"), file("<</A 1>>", one(-1, 0, "(x)"), one(0, 0, "(a)"), one(1, 0, "7"), one(2, 5, "(b)"), one(4096, 0, "(c)"), one(9999, 0, "(d)")), api.OK)
	checkPut(t, f, 4095, obj("7"), file("<</A 1>>", one(-1, 0, "(x)"), one(0, 0, "(a)"), one(2, 5, "(b)"), one(4095, 0, "7"), one(4096, 0, "(c)"), one(9999, 0, "(d)")), api.OK)
}

// Files whose numbers do not rise.
func TestPutMixed(t *testing.T) {
	f := file("<<>>", one(5, 1, "(a)"), one(3, 2, "(b)"), one(9, 3, "(c)"), one(3, 4, "(d)"), one(9, 5, "(e)"))
	x := obj("7")
	for n, want := range map[int][]Numbered{
		3: {one(5, 1, "(a)"), one(3, 2, "7"), one(9, 3, "(c)"), one(3, 4, "(d)"), one(9, 5, "(e)")},
		9: {one(5, 1, "(a)"), one(3, 2, "(b)"), one(9, 3, "7"), one(3, 4, "(d)"), one(9, 5, "(e)")},
		4: {one(4, 0, "7"), one(5, 1, "(a)"), one(3, 2, "(b)"), one(9, 3, "(c)"), one(3, 4, "(d)"), one(9, 5, "(e)")},
		6: {one(5, 1, "(a)"), one(3, 2, "(b)"), one(6, 0, "7"), one(9, 3, "(c)"), one(3, 4, "(d)"), one(9, 5, "(e)")},
	} {
		checkPut(t, f, n, x, File{L: want, Trailer: f.Trailer}, api.OK)
	}
}

// Lists that have room behind them: what stands there stays.
func TestPutRoom(t *testing.T) {
	all := []Numbered{one(1, 0, "(a)"), one(5, 0, "(b)"), one(6, 0, "(c)"), one(7, 0, "(d)")}
	f := File{L: all[:2]}
	checkPut(t, f, 1, obj("7"), File{L: []Numbered{one(1, 0, "7"), one(5, 0, "(b)")}}, api.OK)
	checkPut(t, f, 3, obj("7"), File{L: []Numbered{one(1, 0, "(a)"), one(3, 0, "7"), one(5, 0, "(b)")}}, api.OK)
	checkPut(t, f, 6, obj("7"), File{L: []Numbered{one(1, 0, "(a)"), one(5, 0, "(b)"), one(6, 0, "7")}}, api.OK)
	checkPut(t, File{L: all[:0]}, 9, obj("7"), File{L: []Numbered{one(9, 0, "7")}}, api.OK)
	// Two files of one stay apart.
	g, _ := Put(f, 9, obj("(x)"))
	h, _ := Put(g, 9, obj("(y)"))
	i, _ := Put(g, 10, obj("(z)"))
	j, _ := Put(g, 11, obj("(w)"))
	checkFind(t, g, 9, obj("(x)"))
	checkFind(t, g, 10, none)
	checkFind(t, h, 9, obj("(y)"))
	checkFind(t, i, 10, obj("(z)"))
	checkFind(t, i, 11, none)
	checkFind(t, j, 10, none)
	checkFind(t, j, 11, obj("(w)"))
}

func numbers(l ...int) File {
	var f File
	for _, n := range l {
		f.L = append(f.L, Numbered{N: n})
	}
	return f
}

func TestFree(t *testing.T) {
	for _, x := range []struct {
		f    File
		want int
	}{
		{File{}, 1}, {File{L: []Numbered{}}, 1},
		// With none, with a gap, without one.
		{numbers(1), 2}, {numbers(2), 1}, {numbers(1, 2), 3}, {numbers(1, 3), 2}, {numbers(2, 3), 1}, {numbers(1, 2, 3), 4}, {numbers(1, 2, 4, 5, 9), 3}, {numbers(1, 2, 3, 5, 7), 4}, {numbers(4095), 1}, {numbers(2, 4095), 1}, {numbers(1, 4095), 2},
		// 0 and what is below it is none that may be told; greater ones may.
		{numbers(0), 1}, {numbers(0, 1), 2}, {numbers(0, 2), 1}, {numbers(-1, 1, 2), 3}, {numbers(-1, -2, -3), 1}, {numbers(math.MinInt, math.MaxInt), 1}, {numbers(1, 5000, math.MaxInt), 2}, {numbers(math.MinInt, 1), 2},
		// In any order, and more than once.
		{numbers(3, 1, 2), 4}, {numbers(5, 4, 3, 1), 2}, {numbers(1, 1, 1), 2}, {numbers(2, 2, 1, 1), 3}, {numbers(3, 3, 1), 2}, {numbers(1, 2, 2, 4), 3}, {numbers(2, 1, 2, 1, 3, 0), 4}, {numbers(4, 4, 4, 4), 1},
	} {
		checkFree(t, x.f, x.want)
	}
	r := rand.New(rand.NewSource(4))
	for _, n := range []int{4094, 4095, 4096, 100000} {
		var f File
		for _, i := range r.Perm(n) {
			f.L = append(f.L, Numbered{N: i + 1, O: none})
		}
		checkFree(t, f, n+1)
		gap := f.L[n/2].N
		f.L[n/2].N = n + 5
		checkFree(t, f, gap)
		f.L[n/2].N = 0
		checkFree(t, f, gap)
	}
}
