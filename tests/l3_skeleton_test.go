package tests

import (
	"slices"
	"strings"
	"testing"

	"loop.example/s0027/impl"
)

func as(n int) string {
	return strings.Repeat("a", n)
}

func checkSkeletonsOf(t *testing.T, text string, want [][]int) {
	t.Helper()
	if got := impl.Skeletons(read(t, text)); !sameLists(got, want) {
		t.Errorf("%q: got %v, want %v", text, got, want)
	}
}

// In the wanted skeletons a tilde is the Gap.
func TestSkeletonsByHand(t *testing.T) {
	cases := []struct {
		text string
		want []string
	}{
		{``, []string{""}},
		{`()`, []string{""}},
		{`[]`, nil},
		{`[]a`, nil},
		{`a[]`, nil},
		{`[].*`, nil},
		{`[]|[]`, nil},
		{`[]|()`, []string{""}},
		{`[]|a`, []string{"a"}},
		{`[]*`, []string{"~"}},
		{`[]+`, nil},
		{`[]?`, []string{""}},
		{`[]{0}`, []string{""}},
		{`[]{2}`, nil},
		{`[]{0,2}`, []string{""}},
		{`a{0}`, []string{""}},
		{`([]|a)+`, []string{"a", "a~a"}},
		{`a()b`, []string{"ab"}},
		{`()+`, []string{"", "~"}},
		{`()*`, []string{"~"}},
		{`a()+b`, []string{"ab", "a~b"}},
		{`a|b|ab`, []string{"a", "ab", "b"}},
		{`b|a|b`, []string{"a", "b"}},
		{`ab?c?`, []string{"a", "ab", "abc", "ac"}},
		{`[ab][cd]`, []string{"ac", "ad", "bc", "bd"}},
		{`a.b`, []string{"a~b"}},
		{`a..b`, []string{"a~b"}},
		{`a.*.+b`, []string{"a~b"}},
		{`.*a.*`, []string{"~a~"}},
		{`(.a.)(.b.)`, []string{"~a~b~"}},
		{`.()()*.`, []string{"~"}},
		{`a*`, []string{"~"}},
		{`a+`, []string{"a", "a~a"}},
		{`a{2,}`, []string{"aa", "aa~a"}},
		{`[ab]+`, []string{"a", "a~a", "a~b", "b", "b~a", "b~b"}},
		{`(ab?)+`, []string{"a", "ab", "ab~a", "ab~ab", "a~a", "a~ab"}},
		{`(.a)+`, []string{"~a", "~a~a"}},
		{`(a.)+`, []string{"a~", "a~a~"}},
		{`(.a.)+`, []string{"~a~", "~a~a~"}},
		{`(.|a)+`, []string{"a", "a~", "a~a", "~", "~a"}},
		{`(a?)+`, []string{"", "a", "a~", "a~a", "~", "~a"}},
		{`.+`, []string{"~"}},
		{`(a+)+`, []string{"a", "a~a", "a~a~a", "a~a~a~a"}},
		{`(a*)+b`, []string{"~b"}},
		{`^ab$`, []string{"ab"}},
		{`^ab`, []string{"ab"}},
		{`ab$`, []string{"ab"}},
		{`\xff|b*|a\xff|a.`, []string{"a\xff", "a~", "\xff", "~"}},
	}
	for _, c := range cases {
		checkSkeletonsOf(t, c.text, skeletons(c.want...))
	}
}

func TestSkeletonsOfSets(t *testing.T) {
	cases := []struct {
		op   impl.Op
		want []string
	}{
		{set(), nil},
		{lit(0), []string{"\x00"}},
		{lit(255), []string{"\xff"}},
		{set(0, 7), []string{"\x00", "\x01", "\x02", "\x03", "\x04", "\x05", "\x06", "\x07"}},
		{set(0, 8), []string{"~"}},
		{set(248, 255), []string{"\xf8", "\xf9", "\xfa", "\xfb", "\xfc", "\xfd", "\xfe", "\xff"}},
		{set(247, 255), []string{"~"}},
		{set('a', 'd', 'f', 'i'), []string{"a", "b", "c", "d", "f", "g", "h", "i"}},
		{set('a', 'd', 'f', 'i', 'x', 'x'), []string{"~"}},
		{set(0, 0, 2, 2, 4, 4, 6, 6, 60, 60, 70, 70, 128, 128, 255, 255), []string{"\x00", "\x02", "\x04", "\x06", "<", "F", "\x80", "\xff"}},
		{set(0, 0, 2, 2, 4, 4, 6, 6, 60, 60, 70, 70, 128, 128, 190, 190, 255, 255), []string{"~"}},
		{set(0, 9, 11, 255), []string{"~"}},
		{set(0, 255), []string{"~"}},
	}
	for _, c := range cases {
		got := impl.Skeletons(impl.Pattern{Tree: tree(c.op)})
		if !sameLists(got, skeletons(c.want...)) {
			t.Errorf("%v: got %v", c.op, got)
		}
	}
}

func TestSkeletonsAtTheirGreatestLength(t *testing.T) {
	cases := []struct {
		text string
		want []string
	}{
		{`a{60}`, []string{as(60)}},
		{`a{61}`, []string{"~"}},
		{`a{62}`, []string{"~a"}},
		{`a{61}b`, []string{"~b"}},
		{`a{60}b`, []string{"~"}},
		{`a{60}bc`, []string{"~c"}},
		{`b(a{60})`, []string{"~"}},
		{`b(a{61})`, []string{"b~"}},
		{`b(a{61})c`, []string{"b~c"}},
		{`a{60}()`, []string{as(60)}},
		{`a{60}|b`, []string{as(60), "b"}},
		{`a{61}|b`, []string{"b", "~"}},
		{`(a{60}|b)()`, []string{as(60), "b"}},
		{`(a{60}|b)c`, []string{"~"}},
		{`a{30}(a{30})`, []string{as(60)}},
		{`a{30}(a{31})`, []string{"~"}},
		{`a{59}.`, []string{as(59) + "~"}},
		{`a{60}.`, []string{"~"}},
		{`a{59}.+.*`, []string{as(59) + "~"}},
		{`(a{59}.)(.b?)`, []string{"~"}},
		{`(a{58}.)(.b?)`, []string{as(58) + "~", as(58) + "~b"}},
		{`.(a{58}).`, []string{"~" + as(58) + "~"}},
		{`.(a{59}).`, []string{"~"}},
		{`a{60}[]`, nil},
		{`a{61}[]`, nil},
		{`(a{29})+`, []string{as(29), as(29) + "~" + as(29)}},
		{`(a{30})+`, []string{"~"}},
		{`(a{29}.)+`, []string{as(29) + "~", as(29) + "~" + as(29) + "~"}},
		{`(.a{29})+`, []string{"~" + as(29), "~" + as(29) + "~" + as(29)}},
		{`(a{30}.)+`, []string{"~"}},
		{`(.a{29}.)+`, []string{"~"}},
		{`(.(a{59}))+`, []string{"~"}},
		{`(a{59}.)+`, []string{"~"}},
		{`(a{60})+`, []string{"~"}},
		{`(a{61})+`, []string{"~"}},
		{`(a{59}.|())+`, []string{"~"}},
		{`(a{61}|b)+`, []string{"b", "b~", "b~b", "~", "~b"}},
		{`(a{60})*`, []string{"~"}},
		{`b(a{61})*c`, []string{"b~c"}},
		{`(a{61})?`, []string{"", "~"}},
	}
	for _, c := range cases {
		checkSkeletonsOf(t, c.text, skeletons(c.want...))
	}
}

func TestSkeletonsAtTheirGreatestNumber(t *testing.T) {
	counts := []struct {
		text  string
		count int
	}{
		{`[a-g][a-g]`, 49},
		{`[a-g][a-g]|z`, 50},
		{`x([a-g][a-g]|z)`, 50},
		{`(x|x)([a-g][a-g]|z|z)`, 50},
		{`[a-e][a-e]|[f-j][f-j]`, 50},
		{`([a-e][a-e])(x|y)`, 50},
		{`[a-g][a-g]|z|z|aa|gg`, 50},
		{`a{0,49}`, 50},
		{`(a{0,24})(a{0,25})`, 50},
		{`[a-f]+|[g-n]`, 50},
		{`(a|b){5}|[a-h]|[h-o]`, 47},
	}
	for _, c := range counts {
		got := impl.Skeletons(read(t, c.text))
		if len(got) != c.count {
			t.Errorf("%q: %d skeletons, want %d", c.text, len(got), c.count)
		}
		if want := wantedSkeletons(read(t, c.text).Tree); !sameLists(got, want) {
			t.Errorf("%q: got %v, want %v", c.text, got, want)
		}
	}
	cases := []struct {
		text string
		want []string
	}{
		{`[a-g][a-g]|y|z`, []string{"~"}},
		{`([a-g][a-g]|y|z)x`, []string{"~x"}},
		{`x([a-g][a-g]|y|z)`, []string{"x~"}},
		{`[a-g][a-h]`, []string{"~"}},
		{`x([a-g][a-h])y|z`, []string{"x~y", "z"}},
		{`([a-e][a-e])[x-z]`, []string{"~"}},
		{`a{0,50}`, []string{"~"}},
		{`a{0,51}`, []string{"~", "~a"}},
		{`a{0,50}b`, []string{"~b"}},
		{`(a{0,25})(a{0,25})`, []string{"~"}},
		{`[a-f]+|[g-o]`, []string{"a", "a~a", "a~b", "a~c", "a~d", "a~e", "a~f", "b", "b~a", "b~b", "b~c", "b~d", "b~e", "b~f",
			"c", "c~a", "c~b", "c~c", "c~d", "c~e", "c~f", "d", "d~a", "d~b", "d~c", "d~d", "d~e", "d~f",
			"e", "e~a", "e~b", "e~c", "e~d", "e~e", "e~f", "f", "f~a", "f~b", "f~c", "f~d", "f~e", "f~f", "~"}},
		{`[a-f]+|[g-n]|o`, []string{"~"}},
		{`[a-g]+`, []string{"~"}},
		{`x[a-g]+y`, []string{"x~y"}},
		{`(a|b){6}`, []string{"~"}},
		{`(a|b){7}`, []string{"~a", "~b"}},
		{`c((a|b){6})d`, []string{"c~d"}},
		{`([a-g][a-g]|y|z)[]`, nil},
		{`([a-g][a-g]|y|z)?`, []string{"", "~"}},
		{`([a-g][a-g]|y|z)+`, []string{"~"}},
	}
	for _, c := range cases {
		checkSkeletonsOf(t, c.text, skeletons(c.want...))
	}
}

func TestSkeletonsOfWrongPatterns(t *testing.T) {
	for _, p := range wrongPatterns() {
		if got := impl.Skeletons(p); len(got) != 0 {
			t.Errorf("%.80v: got %v", p, got)
		}
	}
}

// checkSkeletons holds Skeletons against the table of section 3.2 and its form
// against promise 9, and rolls strings of the tree that must be covered.
func checkSkeletons(t *testing.T, d *dice, p impl.Pattern, rolls int) {
	t.Helper()
	got := impl.Skeletons(p)
	if want := wantedSkeletons(p.Tree); !sameLists(got, want) {
		t.Errorf("%.200v: got %v, want %v", p, got, want)
		return
	}
	for i, s := range got {
		if len(s) > impl.MaxSkeletonLen || i > 0 && slices.Compare(got[i-1], s) >= 0 {
			t.Errorf("%.200v: %v is too long or not in its place", p, s)
		}
	}
	if len(got) > impl.MaxSkeletons {
		t.Errorf("%.200v: %d skeletons", p, len(got))
	}
	roller := wordRoller{d: d}
	for range rolls {
		word, ok := roller.roll(p.Tree)
		if ok && !slices.ContainsFunc(got, func(s []int) bool { return covers(s, word) }) {
			t.Errorf("%.200v: %q is not covered by %v", p, word, got)
		}
	}
}

func TestSkeletonsOfShortTrees(t *testing.T) {
	d := dice{state: 31}
	words := linesOver("abc", 4)
	choices := append(shortTreeChoices(), set(0, 255), set('a', 'i'))
	for length := 1; length <= 4; length++ {
		eachList(choices, length, func(list []impl.Op) {
			if theSize(list) < 0 {
				return
			}
			p := impl.Pattern{Left: true, Right: true, Tree: list}
			checkSkeletons(t, &d, p, 0)
			got := impl.Skeletons(p)
			for _, word := range words {
				if inLanguage(p, word) && !slices.ContainsFunc(got, func(s []int) bool { return covers(s, word) }) {
					t.Errorf("%v: %q is not covered by %v", list, word, got)
				}
			}
		})
	}
}

func TestSkeletonsOfGrownTrees(t *testing.T) {
	d := dice{state: 32}
	full, gaps := 0, 0
	for i := range 3000 {
		ops := growTree(&d, 1+d.below(12))
		if i%2 == 0 {
			ops = growWideTree(&d, 1+d.below(7))
		}
		if theSize(ops) > impl.MaxSize {
			continue
		}
		p := impl.Pattern{Left: d.below(2) == 0, Right: d.below(2) == 0, Tree: ops}
		checkSkeletons(t, &d, p, 5)
		if count := len(impl.Skeletons(p)); count > 20 {
			full++
		} else if count == 1 {
			gaps++
		}
	}
	if full < 100 || gaps < 100 {
		t.Errorf("only %d trees with many skeletons and %d with one", full, gaps)
	}
}

func TestSkeletonsOfTheGreatestTrees(t *testing.T) {
	d := dice{state: 33}
	a, b := lit('a'), lit('b')
	for _, ops := range [][]impl.Op{
		tree(a, b, cat(), rep(250, 250)),
		tree(a, rep(0, 250)),
		tree(a, rep(0, -1), rep(250, 250)),
		tree(a, rep(1, -1), rep(0, 125)),
		tree(set('a', 'h'), rep(0, 250)),
		append(tree(a), slices.Repeat(tree(rep(0, -1)), impl.MaxSize-1)...),
		append(tree(a), slices.Repeat(tree(rep(1, -1)), impl.MaxSize-1)...),
		append(tree(set('a', 'f')), slices.Repeat(tree(rep(1, -1)), impl.MaxSize-1)...),
		append(tree(a), slices.Repeat(tree(rep(1, 1)), impl.MaxOps-1)...),
		append(tree(a), slices.Repeat(tree(b, alt()), impl.MaxSize-1)...),
		append(slices.Repeat(tree(a), impl.MaxSize), slices.Repeat(tree(cat()), impl.MaxSize-1)...),
	} {
		checkSkeletons(t, &d, impl.Pattern{Tree: ops}, 3)
	}
}

// checkOwnLists fails if two lists of one answer share memory.
func checkOwnLists(t *testing.T, name string, lists [][]int) {
	t.Helper()
	before := copyLists(lists)
	for i := range lists {
		spoilList(lists[i])
		if !sameLists(lists[i+1:], before[i+1:]) {
			t.Errorf("%s: list %d is shared with a later one", name, i)
			return
		}
	}
}

func TestSkeletonsAnswersNewMemory(t *testing.T) {
	for _, text := range []string{`(ab|[cd]e?|.)+`, `(a|b|)(c|d|)`, `a{0,20}`, `()|a|b|(ab|c|.)`, `()+`} {
		p := read(t, text)
		before := copyTree(p.Tree)
		got := impl.Skeletons(p)
		if !sameTree(p.Tree, before) {
			t.Fatalf("%q: the argument was changed", text)
		}
		want := wantedSkeletons(before)
		spoil(p.Tree)
		if !sameLists(got, want) {
			t.Errorf("%q: the answer shares memory with the argument", text)
		}
		checkOwnLists(t, text, got)
		if again := impl.Skeletons(read(t, text)); !sameLists(again, want) {
			t.Errorf("%q: asked again: %v", text, again)
		}
	}
}
