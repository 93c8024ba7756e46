package tests

import (
	"slices"
	"testing"

	"loop.example/s0027/impl"
)

// dice is a small generator with a fixed start, so that every run of the tests
// sees the same inputs.
type dice struct {
	state uint64
}

func (d *dice) below(n int) int {
	d.state = d.state*6364136223846793005 + 1442695040888963407
	return int(d.state>>33) % n
}

func set(pairs ...int) impl.Op {
	return impl.Op{Kind: impl.OpSet, Set: pairs}
}

func lit(b int) impl.Op {
	return set(b, b)
}

func empty() impl.Op {
	return impl.Op{Kind: impl.OpEmpty}
}

func cat() impl.Op {
	return impl.Op{Kind: impl.OpCat}
}

func alt() impl.Op {
	return impl.Op{Kind: impl.OpAlt}
}

func rep(low, high int) impl.Op {
	return impl.Op{Kind: impl.OpRep, Min: low, Max: high}
}

func tree(ops ...impl.Op) []impl.Op {
	return ops
}

// behind puts op behind copies of the given trees.
func behind(op impl.Op, operands ...[]impl.Op) []impl.Op {
	return append(slices.Concat(operands...), op)
}

func sameOp(a, b impl.Op) bool {
	return a.Kind == b.Kind && a.Min == b.Min && a.Max == b.Max && slices.Equal(a.Set, b.Set)
}

func sameTree(a, b []impl.Op) bool {
	return slices.EqualFunc(a, b, sameOp)
}

func samePattern(a, b impl.Pattern) bool {
	return a.Left == b.Left && a.Right == b.Right && sameTree(a.Tree, b.Tree)
}

func isZeroPattern(p impl.Pattern) bool {
	return !p.Left && !p.Right && len(p.Tree) == 0
}

func copyTree(t []impl.Op) []impl.Op {
	out := slices.Clone(t)
	for i := range out {
		out[i].Set = slices.Clone(out[i].Set)
	}
	return out
}

// spoil overwrites every number of a tree's sets, up to their capacity, so that
// memory shared with another list shows there.
func spoil(t []impl.Op) {
	for _, op := range t {
		full := op.Set[:cap(op.Set)]
		for i := range full {
			full[i] = -77
		}
	}
}

// checkOwnSets fails if two sets of one tree share memory.
func checkOwnSets(t *testing.T, name string, ops []impl.Op) {
	t.Helper()
	before := copyTree(ops)
	for i := range ops {
		spoil(ops[i : i+1])
		if !sameTree(ops[i+1:], before[i+1:]) {
			t.Errorf("%.60q: the set of element %d is shared with a later one", name, i)
			return
		}
	}
}

// theSize is the size of a tree as the document counts it, with no cap; -1 if
// the list is no single tree.
func theSize(ops []impl.Op) int {
	var stack []int
	for _, op := range ops {
		n := len(stack)
		switch {
		case op.Kind == impl.OpEmpty || op.Kind == impl.OpSet:
			stack = append(stack, 1)
		case op.Kind == impl.OpRep && n >= 1:
			stack[n-1] = theRepSize(op, stack[n-1])
		case (op.Kind == impl.OpCat || op.Kind == impl.OpAlt) && n >= 2:
			stack = append(stack[:n-2], stack[n-2]+stack[n-1])
		default:
			return -1
		}
	}
	if len(stack) != 1 {
		return -1
	}
	return stack[0]
}

func theRepSize(op impl.Op, c int) int {
	switch {
	case op.Max == 0:
		return c
	case op.Max == -1 && op.Min == 0:
		return c + 1
	case op.Max == -1:
		return op.Min*c + 1
	}
	return op.Min*c + (op.Max-op.Min)*(c+1)
}

// eachList calls visit with every list of exactly length elements of choices.
func eachList[T any](choices []T, length int, visit func([]T)) {
	list := make([]T, length)
	var fill func(int)
	fill = func(at int) {
		if at == length {
			visit(list)
			return
		}
		for _, c := range choices {
			list[at] = c
			fill(at + 1)
		}
	}
	fill(0)
}
