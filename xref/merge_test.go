package xref

import (
	"math"
	"slices"
	"testing"
)

// P8.4

func TestMerge(t *testing.T) {
	for _, x := range []struct{ young, old, want []Entry }{
		// In neither, in one, in both.
		{nil, nil, nil},
		{[]Entry{}, []Entry{}, nil},
		{[]Entry{used(1, 5, 0)}, nil, []Entry{used(1, 5, 0)}},
		{nil, []Entry{used(1, 5, 0)}, []Entry{used(1, 5, 0)}},
		{[]Entry{used(1, 5, 0)}, []Entry{free(1, 6, 1)}, []Entry{used(1, 5, 0)}},
		{[]Entry{free(1, 0, 0)}, []Entry{used(1, 6, 1)}, []Entry{free(1, 0, 0)}},
		{[]Entry{used(1, 5, 0)}, []Entry{used(2, 6, 0)}, []Entry{used(1, 5, 0), used(2, 6, 0)}},
		{[]Entry{used(2, 5, 0)}, []Entry{used(1, 6, 0)}, []Entry{used(1, 6, 0), used(2, 5, 0)}},
		{[]Entry{used(1, 1, 1), used(3, 3, 3)}, []Entry{free(0, 2, 2), free(1, 2, 2), free(2, 2, 2), free(3, 2, 2), free(4, 2, 2)}, []Entry{free(0, 2, 2), used(1, 1, 1), free(2, 2, 2), used(3, 3, 3), free(4, 2, 2)}},
		// A number more than once in either.
		{[]Entry{used(1, 5, 0), used(1, 6, 0), free(1, 7, 0)}, nil, []Entry{used(1, 5, 0)}},
		{nil, []Entry{free(1, 7, 0), used(1, 5, 0), used(1, 6, 0)}, []Entry{free(1, 7, 0)}},
		{[]Entry{used(2, 5, 0), used(1, 6, 0), used(2, 7, 0)}, []Entry{used(1, 8, 0), used(3, 9, 0), used(2, 1, 0), used(3, 2, 0)}, []Entry{used(1, 6, 0), used(2, 5, 0), used(3, 9, 0)}},
		{[]Entry{{}, {}}, []Entry{{}, used(0, 1, 1)}, []Entry{{}}},
		// In any order, and of any numbers.
		{[]Entry{used(9, 1, 0), used(3, 2, 0)}, []Entry{used(7, 3, 0), used(5, 4, 0), used(11, 5, 0)}, []Entry{used(3, 2, 0), used(5, 4, 0), used(7, 3, 0), used(9, 1, 0), used(11, 5, 0)}},
		{[]Entry{used(math.MaxInt, -1, 0), used(-1, 2, -5)}, []Entry{used(math.MinInt, 3, 0), used(0, 4, 0), used(-1, 5, 0), used(5000, 1e12, 1e12)}, []Entry{used(math.MinInt, 3, 0), used(-1, 2, -5), used(0, 4, 0), used(5000, 1e12, 1e12), used(math.MaxInt, -1, 0)}},
	} {
		checkMerge(t, x.young, x.old, x.want)
	}
}

func TestMergeMany(t *testing.T) {
	for _, n := range []int{10, 100, 4096, 30000} {
		falling := row(0, n)
		slices.Reverse(falling)
		checkMerge(t, falling, nil, row(0, n))
		checkMerge(t, nil, falling, row(0, n))
		checkMerge(t, falling[:n/2], row(0, n), row(0, n))
		other := row(n, n)
		checkMerge(t, other, falling, append(row(0, n), row(n, n)...))
		checkMerge(t, append(other, other...), append(falling, other...), append(row(0, n), row(n, n)...))
		same := slices.Repeat([]Entry{used(5, 1, 1)}, n)
		checkMerge(t, same, falling, wantMerge(same, falling))
		checkMerge(t, falling, same, row(0, n))
	}
}

// Lists that have room behind them: what stands there stays.
func TestMergeRoom(t *testing.T) {
	whole := []Entry{used(4, 1, 0), used(2, 2, 0), used(9, 9, 9), used(8, 8, 8), used(7, 7, 7)}
	before := slices.Clone(whole)
	checkMerge(t, whole[:2], whole[3:4], []Entry{used(2, 2, 0), used(4, 1, 0), used(8, 8, 8)})
	checkMerge(t, whole[:2], nil, []Entry{used(2, 2, 0), used(4, 1, 0)})
	checkMerge(t, nil, whole[:2], []Entry{used(2, 2, 0), used(4, 1, 0)})
	checkMerge(t, whole[1:3], whole[1:3], []Entry{used(2, 2, 0), used(9, 9, 9)})
	if !slices.Equal(whole, before) {
		t.Error(whole)
	}
}
