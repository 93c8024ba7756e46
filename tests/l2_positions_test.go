package tests

import (
	"slices"
	"testing"

	"loop.example/s0027/impl"
)

func TestPositionsByHand(t *testing.T) {
	a, b := []int{'a', 'a'}, []int{'b', 'b'}
	all := []int{0, 255}
	cases := []struct {
		text string
		want impl.Auto
	}{
		{`^()$`, impl.Auto{Null: true}},
		{`^[]$`, impl.Auto{Sets: [][]int{{}}, First: []int{0}, Last: []int{0}, Follow: [][]int{{}}}},
		{`^a`, impl.Auto{Sets: [][]int{a, all}, First: []int{0}, Last: []int{0, 1}, Follow: [][]int{{1}, {1}}}},
		{`a$`, impl.Auto{Sets: [][]int{all, a}, First: []int{0, 1}, Last: []int{1}, Follow: [][]int{{0, 1}, {}}}},
		{``, impl.Auto{Null: true, Sets: [][]int{all, all}, First: []int{0, 1}, Last: []int{0, 1}, Follow: [][]int{{0, 1}, {1}}}},
		{`^a|b$`, impl.Auto{Sets: [][]int{a, b}, First: []int{0, 1}, Last: []int{0, 1}, Follow: [][]int{{}, {}}}},
		{`^a*b+$`, impl.Auto{Sets: [][]int{a, b}, First: []int{0, 1}, Last: []int{1}, Follow: [][]int{{0, 1}, {1}}}},
		{`^(a*)+(b?)*$`, impl.Auto{Null: true, Sets: [][]int{a, b}, First: []int{0, 1}, Last: []int{0, 1}, Follow: [][]int{{0, 1}, {1}}}},
		{`^a{3}$`, impl.Auto{Sets: [][]int{a, a, a}, First: []int{0}, Last: []int{2}, Follow: [][]int{{1}, {2}, {}}}},
		{`^a{2,}$`, impl.Auto{Sets: [][]int{a, a}, First: []int{0}, Last: []int{1}, Follow: [][]int{{1}, {1}}}},
		{`^a{0}b$`, impl.Auto{Sets: [][]int{b}, First: []int{0}, Last: []int{0}, Follow: [][]int{{}}}},
		{`^(ab){2}$`, impl.Auto{Sets: [][]int{a, b, a, b}, First: []int{0}, Last: []int{3}, Follow: [][]int{{1}, {2}, {3}, {}}}},
		{`^([]|a)*$`, impl.Auto{Null: true, Sets: [][]int{{}, a}, First: []int{0, 1}, Last: []int{0, 1}, Follow: [][]int{{0, 1}, {0, 1}}}},
	}
	for _, c := range cases {
		if got := impl.Positions(read(t, c.text)); !sameAuto(got, c.want) {
			t.Errorf("%q: got %v, want %v", c.text, got, c.want)
		}
	}
}

func TestPositionsOfWrongPatterns(t *testing.T) {
	for _, p := range wrongPatterns() {
		if got := impl.Positions(p); !sameAuto(got, impl.Auto{}) {
			t.Errorf("%.80v: got %v", p, got)
		}
	}
}

// checkPositions holds Positions against the table of section 2.1, and where
// its pending sets end against what the pattern denotes.
func checkPositions(t *testing.T, p impl.Pattern, lines [][]byte) {
	t.Helper()
	got := impl.Positions(p)
	if want := wantedAuto(p); !sameAuto(got, want) {
		t.Errorf("%.80v: got %v, want %v", p, got, want)
		return
	}
	for _, line := range lines {
		at := firstWaiting(got)
		for _, b := range line {
			at = at.after(got, b)
		}
		if at.end != inLanguage(p, line) {
			t.Errorf("%v: the pending sets end with %v after %q", p, at.end, line)
		}
	}
}

func linesOver(alphabet string, longest int) [][]byte {
	var out [][]byte
	for length := range longest + 1 {
		eachList([]byte(alphabet), length, func(line []byte) {
			out = append(out, slices.Clone(line))
		})
	}
	return out
}

func shortTreeChoices() []impl.Op {
	return []impl.Op{lit('a'), set('a', 'b'), empty(), set(), cat(), alt(), rep(0, -1), rep(1, -1), rep(0, 1), rep(2, 3), rep(0, 0), rep(2, -1)}
}

func TestPositionsOfShortTrees(t *testing.T) {
	lines := linesOver("abc", 3)
	for length := 1; length <= 4; length++ {
		eachList(shortTreeChoices(), length, func(list []impl.Op) {
			if theSize(list) > 0 {
				eachAnchoring(list, func(p impl.Pattern) { checkPositions(t, p, lines) })
			}
		})
	}
}

func TestPositionsOfGrownTrees(t *testing.T) {
	d := dice{state: 21}
	lines := linesOver("ab\n.", 3)
	for range 300 {
		ops := growTree(&d, 1+d.below(9))
		if theSize(ops) <= 60 {
			checkPositions(t, impl.Pattern{Left: d.below(2) == 0, Right: d.below(2) == 0, Tree: ops}, lines)
		}
	}
}

func TestPositionsOfTheGreatestTrees(t *testing.T) {
	a, b := lit('a'), lit('b')
	for _, ops := range [][]impl.Op{
		tree(a, b, cat(), rep(250, 250)),
		tree(a, rep(0, 250)),
		tree(a, rep(0, -1), rep(250, 250)),
		append(tree(a), slices.Repeat(tree(rep(0, -1)), impl.MaxSize-1)...),
		append(tree(a), slices.Repeat(tree(rep(1, 1)), impl.MaxOps-1)...),
		append(tree(a), slices.Repeat(tree(b, alt()), impl.MaxSize-1)...),
		append(slices.Repeat(tree(a), impl.MaxSize), slices.Repeat(tree(cat()), impl.MaxSize-1)...),
	} {
		eachAnchoring(ops, func(p impl.Pattern) { checkPositions(t, p, nil) })
	}
	most := impl.Positions(impl.Pattern{Tree: tree(a, b, cat(), rep(250, 250))})
	if len(most.Sets) != 502 || len(most.Follow) != 502 || !slices.Equal(most.Last, []int{500, 501}) || !slices.Equal(most.Follow[499], []int{500}) {
		t.Errorf("%d sets, Last %v", len(most.Sets), most.Last)
	}
}

// spoilList overwrites a list up to its capacity.
func spoilList(list []int) {
	full := list[:cap(list)]
	for i := range full {
		full[i] = -77
	}
}

func TestPositionsAnswersNewMemory(t *testing.T) {
	p := impl.Pattern{Tree: tree(set('a', 'b'), rep(2, 3), set('c', 'd'), alt(), rep(1, -1), set(0, 255), cat())}
	before := copyTree(p.Tree)
	got := impl.Positions(p)
	if !sameTree(p.Tree, before) {
		t.Fatal("the argument was changed")
	}
	want := wantedAuto(impl.Pattern{Tree: before})
	spoil(p.Tree)
	if !sameAuto(got, want) {
		t.Error("the answer shares memory with the argument")
	}
	lists := slices.Concat(got.Sets, [][]int{got.First, got.Last}, got.Follow)
	wanted := slices.Concat(want.Sets, [][]int{want.First, want.Last}, want.Follow)
	for i := range lists {
		spoilList(lists[i])
		if !slices.EqualFunc(lists[i+1:], wanted[i+1:], slices.Equal) {
			t.Fatalf("list %d is shared with a later one", i)
		}
	}
}
