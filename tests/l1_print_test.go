package tests

import (
	"fmt"
	"slices"
	"testing"

	"loop.example/s0027/impl"
)

func TestPrintWritesTexts(t *testing.T) {
	a, b, c := lit('a'), lit('b'), lit('c')
	cases := []struct {
		ops  []impl.Op
		want string
	}{
		{tree(empty()), "()"},
		{tree(a, empty(), alt()), "a|()"},
		{tree(empty(), a, cat()), "()a"},
		{tree(a, b, cat(), c, cat()), "abc"},
		{tree(a, b, c, cat(), cat()), "a(bc)"},
		{tree(a, b, alt(), c, alt()), "a|b|c"},
		{tree(a, b, c, alt(), alt()), "a|(b|c)"},
		{tree(a, b, cat(), c, alt()), "ab|c"},
		{tree(a, b, c, cat(), alt()), "a|bc"},
		{tree(a, b, alt(), c, cat()), "(a|b)c"},
		{tree(a, b, c, alt(), cat()), "a(b|c)"},
		{tree(a, b, rep(0, -1), cat()), "ab*"},
		{tree(a, rep(0, -1), b, cat()), "a*b"},
		{tree(a, rep(0, -1), b, rep(1, -1), alt()), "a*|b+"},
		{tree(a, b, cat(), rep(0, -1)), "(ab)*"},
		{tree(a, b, alt(), rep(1, -1)), "(a|b)+"},
		{tree(a, rep(0, 1), rep(0, 1)), "(a?)?"},
		{tree(empty(), rep(0, -1)), "()*"},
		{tree(a, rep(0, -1)), "a*"},
		{tree(a, rep(1, -1)), "a+"},
		{tree(a, rep(0, 1)), "a?"},
		{tree(a, rep(0, 0)), "a{0}"},
		{tree(a, rep(1, 1)), "a{1}"},
		{tree(a, rep(2, -1)), "a{2,}"},
		{tree(a, rep(250, -1)), "a{250,}"},
		{tree(a, rep(250, 250)), "a{250}"},
		{tree(a, rep(0, 2)), "a{0,2}"},
		{tree(a, rep(1, 2)), "a{1,2}"},
		{tree(a, rep(9, 100)), "a{9,100}"},
		{tree(set(), rep(0, -1)), "[]*"},
		{tree(set(0, 255), rep(0, -1)), "[^]*"},
		{tree(set(0, 9, 11, 255), rep(0, -1)), ".*"},
		{tree(set('a', 'b')), "[ab]"},
		{tree(set('a', 'c')), "[a-c]"},
		{tree(set('a', 'a', 'c', 'd', 'f', 'h')), "[acdf-h]"},
		{tree(set(0, 9)), `[\x00-\t]`},
		{tree(set(0, 9, 11, 254)), `[\x00-\t\x0b-\xfe]`},
		{tree(set(1, 255)), `[\x01-\xff]`},
		{tree(set('(', '+', '-', '-', ']', '^')), `[\(-\+\-\]\^]`},
	}
	for _, c := range cases {
		for _, p := range anchoredPatterns(c.ops) {
			got := string(impl.PrintPattern(p))
			if got != anchored(p, c.want) {
				t.Errorf("got %q, want %q", got, anchored(p, c.want))
			}
			checkReadBack(t, p)
		}
	}
}

func anchoredPatterns(ops []impl.Op) []impl.Pattern {
	return []impl.Pattern{{Tree: ops}, {Left: true, Tree: ops}, {Right: true, Tree: ops}, {Left: true, Right: true, Tree: ops}}
}

// checkReadBack reads the text of p. Only a text that breaks a limit of texts
// may be refused.
func checkReadBack(t *testing.T, p impl.Pattern) {
	t.Helper()
	text := impl.PrintPattern(p)
	got, code := impl.ParsePattern(text)
	if len(text) > impl.MaxPattern || mostOpen(text) > impl.MaxDepth {
		if code != impl.CodeLimit {
			t.Errorf("%.60q: code %d", text, code)
		}
		return
	}
	if code != impl.CodeOK || !samePattern(got, p) {
		t.Errorf("%.60q: code %d, %v, want %v", text, code, got, p)
	}
}

// mostOpen counts the groups that are open at one place of a printed text, in
// which a class holds every parenthesis behind a backslash.
func mostOpen(text []byte) int {
	open, most := 0, 0
	for i := 0; i < len(text); i++ {
		switch text[i] {
		case '\\':
			i++
		case '(':
			open++
			most = max(most, open)
		case ')':
			open--
		}
	}
	return most
}

func TestPrintOfEveryByte(t *testing.T) {
	for b := range 256 {
		want := fmt.Sprintf(`\x%02x`, b)
		switch {
		case b == '\n':
			want = `\n`
		case b == '\t':
			want = `\t`
		case b == '\r':
			want = `\r`
		case slices.Contains([]byte(`\.[]()|*+?{}^$-`), byte(b)):
			want = `\` + string(rune(b))
		case b >= 32 && b <= 126:
			want = string(rune(b))
		}
		p := impl.Pattern{Tree: tree(lit(b))}
		if got := string(impl.PrintPattern(p)); got != want {
			t.Errorf("byte %d: got %q, want %q", b, got, want)
		}
		checkReadBack(t, p)
	}
}

func TestEverySetOfOneRangeReadsBack(t *testing.T) {
	for lo := range 256 {
		for hi := lo; hi < 256; hi++ {
			checkReadBack(t, impl.Pattern{Tree: tree(set(lo, hi))})
		}
	}
}

func TestRandomSetsReadBack(t *testing.T) {
	d := dice{state: 4}
	for range 5000 {
		var pairs []int
		for at := d.below(40); at < 256; at += 2 + d.below(40) {
			hi := min(255, at+d.below(4))
			pairs = append(pairs, at, hi)
			at = hi
		}
		checkReadBack(t, impl.Pattern{Tree: tree(set(pairs...))})
	}
}

func TestShortTreesReadBack(t *testing.T) {
	choices := []impl.Op{lit('a'), empty(), set(), cat(), alt(), rep(0, -1), rep(2, 2), rep(0, 1)}
	for length := 1; length <= 5; length++ {
		eachList(choices, length, func(list []impl.Op) {
			if theSize(list) > 0 {
				checkReadBack(t, impl.Pattern{Left: length%2 == 0, Right: list[0].Kind == impl.OpEmpty, Tree: list})
			}
		})
	}
}

// growTree makes a tree with about leaves leaves and any shape.
func growTree(d *dice, leaves int) []impl.Op {
	leafs := []impl.Op{lit('a'), lit('b'), lit('$'), lit('\n'), lit(200), empty(), set(), set(0, 255), set(0, 9, 11, 255), set('-', '/', '[', '^')}
	out := tree(leafs[d.below(len(leafs))])
	if leaves > 1 {
		left := 1 + d.below(leaves-1)
		op := []impl.Op{cat(), alt()}[d.below(2)]
		out = behind(op, growTree(d, left), growTree(d, leaves-left))
	}
	for d.below(4) == 0 {
		low := d.below(4)
		high := []int{-1, low, low + d.below(3)}[d.below(3)]
		out = append(out, rep(low, high))
	}
	return out
}

func TestGrownTreesReadBack(t *testing.T) {
	d := dice{state: 5}
	taken := 0
	for range 20000 {
		ops := growTree(&d, 1+d.below(12))
		valid := theSize(ops) <= impl.MaxSize
		p := impl.Pattern{Left: d.below(2) == 0, Right: d.below(2) == 0, Tree: ops}
		if impl.ValidPattern(p) != valid {
			t.Errorf("%v: want valid %v", ops, valid)
		}
		if valid {
			taken++
			checkReadBack(t, p)
		}
	}
	if taken < 5000 {
		t.Errorf("only %d valid trees", taken)
	}
}

func TestPrintAtTheLimitsOfTexts(t *testing.T) {
	deep := func(n int) impl.Pattern {
		return impl.Pattern{Tree: append(tree(lit('a')), slices.Repeat(tree(rep(1, 1)), n)...)}
	}
	checkReadBack(t, deep(101))
	checkReadBack(t, deep(102))
	checkReadBack(t, deep(impl.MaxOps-1))
	long := tree(lit(255))
	for range 499 {
		long = append(long, lit(255), cat())
	}
	checkReadBack(t, impl.Pattern{Tree: long})
	checkReadBack(t, impl.Pattern{Left: true, Tree: long})
}

func TestPrintLeavesItsArgumentAlone(t *testing.T) {
	ops := tree(set('a', 'b', 'd', 'f'), rep(2, 3), empty(), alt())
	before := copyTree(ops)
	text := impl.PrintPattern(impl.Pattern{Tree: ops})
	if !sameTree(ops, before) {
		t.Errorf("the tree was changed to %v", ops)
	}
	spoil(ops)
	if string(text) != "[abd-f]{2,3}|()" {
		t.Errorf("got %q", text)
	}
}
