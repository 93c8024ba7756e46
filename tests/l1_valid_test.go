package tests

import (
	"math"
	"slices"
	"testing"

	"loop.example/s0027/impl"
)

func checkValid(t *testing.T, ops []impl.Op, want bool) {
	t.Helper()
	for _, left := range []bool{false, true} {
		for _, right := range []bool{false, true} {
			p := impl.Pattern{Left: left, Right: right, Tree: ops}
			if impl.ValidPattern(p) != want {
				t.Errorf("%d elements, %.200v: want valid %v", len(ops), p, want)
			}
			if want != (len(impl.PrintPattern(p)) > 0) || want != (len(impl.ExpandTree(ops)) > 0) {
				t.Errorf("%d elements, %.200v: printed or expanded against valid %v", len(ops), p, want)
			}
		}
	}
}

func TestValidElements(t *testing.T) {
	a := lit('a')
	everySecond := impl.Op{Kind: impl.OpSet}
	for b := 0; b < 256; b += 2 {
		everySecond.Set = append(everySecond.Set, b, b)
	}
	good := [][]impl.Op{tree(empty()), tree(a), tree(set()), tree(set(0, 255)), tree(set(0, 0, 2, 2)), tree(set(255, 255)), tree(everySecond),
		tree(a, rep(0, 0)), tree(a, rep(0, -1)), tree(a, rep(250, -1)), tree(a, rep(250, 250)), tree(a, rep(0, 250)), tree(a, rep(3, 3)),
		tree(impl.Op{Kind: impl.OpEmpty, Set: []int{}})}
	for _, ops := range good {
		checkValid(t, ops, true)
	}
	bad := [][]impl.Op{tree(impl.Op{Kind: -1}), tree(impl.Op{Kind: 5}), tree(impl.Op{Kind: math.MaxInt}), tree(impl.Op{Kind: math.MinInt}),
		tree(set(1)), tree(set(1, 2, 4)), tree(set(2, 1)), tree(set(-1, 3)), tree(set(0, 256)), tree(set(256, 256)), tree(set(1, 2, 2, 3)),
		tree(set(1, 2, 3, 4)), tree(set(5, 6, 1, 2)), tree(set(math.MinInt, math.MaxInt)), tree(set(0, math.MaxInt, 5, 6)), tree(set(3, 1, 5, 6)),
		tree(a, rep(-1, 3)), tree(a, rep(2, 1)), tree(a, rep(1, 0)), tree(a, rep(251, -1)), tree(a, rep(251, 251)), tree(a, rep(0, 251)),
		tree(a, rep(0, -2)), tree(a, rep(-1, -1)), tree(a, rep(0, math.MaxInt)), tree(a, rep(math.MinInt, math.MinInt)),
		tree(a, impl.Op{Kind: impl.OpRep, Set: []int{1, 1}, Max: -1}), tree(a, a, impl.Op{Kind: impl.OpCat, Set: []int{1, 1}}),
		tree(a, a, impl.Op{Kind: impl.OpAlt, Set: []int{1, 1}}), tree(impl.Op{Kind: impl.OpEmpty, Set: []int{1, 1}})}
	for _, ops := range bad {
		checkValid(t, ops, false)
	}
}

func TestValidNumbersOnlyForRep(t *testing.T) {
	a := lit('a')
	for _, op := range []impl.Op{empty(), a, cat(), alt()} {
		for _, low := range []int{-1, 0, 1} {
			for _, high := range []int{-1, 0, 1} {
				op.Min, op.Max = low, high
				ops := tree(op)
				if op.Kind == impl.OpCat || op.Kind == impl.OpAlt {
					ops = tree(a, a, op)
				}
				checkValid(t, ops, low == 0 && high == 0)
			}
		}
	}
}

func TestValidFormOfShortLists(t *testing.T) {
	choices := []impl.Op{lit('a'), empty(), cat(), alt(), rep(0, -1), rep(2, 3)}
	checkValid(t, nil, false)
	for length := 1; length <= 5; length++ {
		eachList(choices, length, func(list []impl.Op) {
			checkValid(t, list, theSize(list) > 0)
		})
	}
}

func TestValidSizes(t *testing.T) {
	a := lit('a')
	row := func(n int) []impl.Op {
		ops := tree(a)
		for range n - 1 {
			ops = append(ops, a, cat())
		}
		return ops
	}
	cases := []struct {
		ops  []impl.Op
		want bool
	}{
		{row(500), true},
		{row(501), false},
		{behind(rep(0, 0), row(500)), true},
		{behind(rep(0, 0), row(501)), false},
		{behind(rep(1, 1), row(500)), true},
		{behind(rep(0, 1), row(499)), true},
		{behind(rep(0, 1), row(500)), false},
		{behind(rep(0, -1), row(499)), true},
		{behind(rep(0, -1), row(500)), false},
		{behind(rep(1, -1), row(499)), true},
		{behind(rep(1, -1), row(500)), false},
		{behind(rep(2, -1), row(249)), true},
		{behind(rep(2, -1), row(250)), false},
		{behind(rep(2, 2), row(250)), true},
		{behind(rep(2, 2), row(251)), false},
		{behind(rep(1, 2), row(249)), true},
		{behind(rep(1, 2), row(250)), false},
		{behind(rep(250, 250), row(2)), true},
		{behind(rep(250, 250), row(3)), false},
		{behind(alt(), row(250), row(250)), true},
		{behind(alt(), row(250), row(251)), false},
	}
	for _, c := range cases {
		checkValid(t, c.ops, c.want)
	}
}

func TestValidSizeNeverWrapsRound(t *testing.T) {
	ops := tree(lit('a'))
	for range 2000 {
		ops = append(ops, rep(250, 250))
	}
	checkValid(t, ops, false)
	checkValid(t, append(ops, rep(0, 0)), false)
}

func TestValidNumberOfElements(t *testing.T) {
	ops := append(tree(lit('a')), slices.Repeat(tree(rep(1, 1)), impl.MaxOps-1)...)
	checkValid(t, ops, true)
	checkValid(t, append(ops, rep(1, 1)), false)
	ops = append(tree(lit('a')), slices.Repeat(tree(rep(0, 0)), impl.MaxOps-1)...)
	checkValid(t, ops, true)
	checkValid(t, append(ops, rep(0, 0)), false)
}
