package tests

import (
	"slices"
	"testing"

	"loop.example/s0027/impl"
)

func TestExpandWritesOutRepetitions(t *testing.T) {
	a, b := lit('a'), lit('b')
	maybe := tree(a, empty(), alt())
	cases := []struct {
		in, want []impl.Op
	}{
		{tree(empty()), tree(empty())},
		{tree(set()), tree(set())},
		{tree(a, b, cat()), tree(a, b, cat())},
		{tree(a, b, alt()), tree(a, b, alt())},
		{tree(a, rep(0, -1)), tree(a, rep(0, -1))},
		{tree(a, rep(1, -1)), tree(a, rep(1, -1))},
		{tree(a, rep(2, -1)), tree(a, a, rep(1, -1), cat())},
		{tree(a, rep(3, -1)), tree(a, a, cat(), a, rep(1, -1), cat())},
		{tree(a, rep(0, 0)), tree(empty())},
		{tree(a, rep(1, 1)), tree(a)},
		{tree(a, rep(2, 2)), tree(a, a, cat())},
		{tree(a, rep(3, 3)), tree(a, a, cat(), a, cat())},
		{tree(a, rep(0, 1)), maybe},
		{tree(a, rep(0, 2)), behind(cat(), maybe, maybe)},
		{tree(a, rep(1, 2)), behind(cat(), tree(a), maybe)},
		{tree(a, rep(2, 4)), behind(cat(), behind(cat(), tree(a, a, cat()), maybe), maybe)},
		{tree(a, b, cat(), rep(0, 0), rep(2, 2)), tree(empty(), empty(), cat())},
		{tree(a, rep(2, 2), rep(0, -1)), tree(a, a, cat(), rep(0, -1))},
		{tree(a, rep(0, 1), rep(2, -1)), behind(cat(), maybe, behind(rep(1, -1), maybe))},
		{tree(a, rep(2, 2), b, rep(0, 1), cat()), tree(a, a, cat(), b, empty(), alt(), cat())},
		{tree(a, rep(2, 2), b, rep(0, 1), alt()), tree(a, a, cat(), b, empty(), alt(), alt())},
		{tree(empty(), rep(2, 3)), tree(empty(), empty(), cat(), empty(), empty(), alt(), cat())},
	}
	for _, c := range cases {
		if got := impl.ExpandTree(c.in); !sameTree(got, c.want) {
			t.Errorf("%v: got %v, want %v", c.in, got, c.want)
		}
	}
}

func TestExpandOfWrongTrees(t *testing.T) {
	a := lit('a')
	for _, ops := range [][]impl.Op{nil, {}, tree(a, a), tree(cat()), tree(a, cat()), tree(a, rep(0, 251)), tree(set(3, 2)),
		tree(a, rep(250, 250), rep(3, 3)), tree(a, rep(250, 250), rep(3, 3), rep(0, 0))} {
		if got := impl.ExpandTree(ops); len(got) != 0 {
			t.Errorf("%v: got %v", ops, got)
		}
	}
}

func TestExpandAtTheLargestCounts(t *testing.T) {
	a, b := lit('a'), lit('b')
	cases := []struct {
		in   []impl.Op
		sets int
		size int
	}{
		{tree(a, b, cat(), rep(250, 250)), 500, 500},
		{tree(a, rep(0, 250)), 250, 500},
		{tree(a, rep(0, -1), rep(250, 250)), 250, 500},
		{tree(a, rep(250, -1)), 250, 251},
		{tree(a, rep(250, 250), rep(2, 2)), 500, 500},
		{append(tree(a), slices.Repeat(tree(rep(1, 1)), impl.MaxOps-1)...), 1, 1},
		{append(tree(a), slices.Repeat(tree(rep(0, 0)), impl.MaxOps-1)...), 0, 1},
	}
	for _, c := range cases {
		got := impl.ExpandTree(c.in)
		sets := 0
		for _, op := range got {
			if op.Kind == impl.OpSet {
				sets++
			}
		}
		if sets != c.sets || theSize(got) != c.size {
			t.Errorf("%.60v: %d sets and size %d", c.in, sets, theSize(got))
		}
		checkExpanded(t, c.in, got)
	}
}

// checkExpanded checks the form of an expanded tree.
func checkExpanded(t *testing.T, in, got []impl.Op) {
	t.Helper()
	if !impl.ValidPattern(impl.Pattern{Tree: got}) || theSize(got) > theSize(in) {
		t.Errorf("%.60v: not valid, or greater: %.60v", in, got)
	}
	for _, op := range got {
		if op.Kind == impl.OpRep && (op.Max != -1 || op.Min > 1) {
			t.Errorf("%.60v: a counted repetition is left: %v", in, op)
		}
	}
	if again := impl.ExpandTree(got); !sameTree(again, got) {
		t.Errorf("%.60v: expanding again gives %.60v", in, again)
	}
}

// The words of at most longest bytes a and b are numbered by a leading 1 bit
// and one bit for each byte, so that a set of them is a list of bools.
const longest = 5

type words [1 << (longest + 1)]bool

const emptyWord = 1

func wordLength(w int) int {
	n := 0
	for ; w > 1; w >>= 1 {
		n++
	}
	return n
}

func product(x, y words) words {
	var out words
	for v := range x {
		for w := range y {
			n := wordLength(w)
			if x[v] && y[w] && wordLength(v)+n <= longest {
				out[v<<n|w&(1<<n-1)] = true
			}
		}
	}
	return out
}

func union(x, y words) words {
	for w := range y {
		x[w] = x[w] || y[w]
	}
	return x
}

// denotes answers the words of a tree, as section 1.2 tells them.
func denotes(ops []impl.Op) words {
	var stack []words
	for _, op := range ops {
		n := len(stack)
		var made words
		switch op.Kind {
		case impl.OpEmpty:
			made[emptyWord] = true
		case impl.OpSet:
			for i := 0; i < len(op.Set); i += 2 {
				made[2] = made[2] || op.Set[i] <= 'a' && 'a' <= op.Set[i+1]
				made[3] = made[3] || op.Set[i] <= 'b' && 'b' <= op.Set[i+1]
			}
		case impl.OpCat:
			made, n = product(stack[n-2], stack[n-1]), n-2
		case impl.OpAlt:
			made, n = union(stack[n-2], stack[n-1]), n-2
		case impl.OpRep:
			made, n = repeated(stack[n-1], op.Min, op.Max), n-1
		}
		stack = append(stack[:n], made)
	}
	return stack[0]
}

func repeated(x words, low, high int) words {
	var all, power words
	power[emptyWord] = true
	if high == -1 {
		high = low + longest
	}
	for k := 0; k <= high; k++ {
		if k >= low {
			all = union(all, power)
		}
		power = product(power, x)
	}
	return all
}

func checkSameWords(t *testing.T, ops []impl.Op) {
	t.Helper()
	got := impl.ExpandTree(ops)
	checkExpanded(t, ops, got)
	if denotes(got) != denotes(ops) {
		t.Errorf("%v: expanded to %v, which denotes other strings", ops, got)
	}
}

func TestExpandKeepsTheWordsOfShortTrees(t *testing.T) {
	choices := []impl.Op{lit('a'), set('a', 'b'), empty(), set(), cat(), alt(), rep(0, -1), rep(1, -1), rep(2, -1), rep(0, 0), rep(1, 1), rep(0, 2), rep(2, 3)}
	for length := 1; length <= 4; length++ {
		eachList(choices, length, func(list []impl.Op) {
			if theSize(list) > 0 {
				checkSameWords(t, list)
			}
		})
	}
}

func TestExpandKeepsTheWordsOfGrownTrees(t *testing.T) {
	d := dice{state: 6}
	for range 400 {
		ops := growTree(&d, 1+d.below(6))
		if theSize(ops) <= 60 {
			checkSameWords(t, ops)
		}
	}
}

func TestExpandAnswersNewMemory(t *testing.T) {
	ops := tree(set('a', 'b'), rep(3, 4), set('c', 'd'), cat(), rep(2, -1), empty(), alt())
	before := copyTree(ops)
	got := impl.ExpandTree(ops)
	want := copyTree(got)
	if !sameTree(ops, before) {
		t.Errorf("the argument was changed to %v", ops)
	}
	spoil(ops)
	if !sameTree(got, want) {
		t.Error("the answer shares sets with the argument")
	}
	checkOwnSets(t, "expanded", got)
	plain := tree(set('a', 'b'))
	spoil(impl.ExpandTree(plain))
	if !sameTree(plain, tree(set('a', 'b'))) {
		t.Error("the answer shares sets with the argument")
	}
}
