package tests

import (
	"bytes"
	"fmt"
	"slices"
	"strings"
	"sync"
	"testing"

	"loop.example/s0027/impl"
)

func checkSearch(t *testing.T, name string, st impl.State, pattern string, want impl.Answer) {
	t.Helper()
	if got := impl.Search(st, []byte(pattern)); !sameAnswer(got, want) {
		t.Errorf("%s: %.60q answers %s, want %s", name, pattern, shown(got), shown(want))
	}
}

func TestSearchByHand(t *testing.T) {
	text := "abc\nab\nxabcx\nbca\ncabcab\n\na"
	cases := []struct {
		pattern string
		checked int // when all lines are sealed
		want    []int
	}{
		{`abc`, 3, []int{0, 2, 4}},
		{`^abc`, 3, []int{0}},
		{`abc$`, 3, []int{0}},
		{`^abc$`, 3, []int{0}},
		{`bca|xab`, 3, []int{2, 3, 4}},
		{`bca|abc`, 4, []int{0, 2, 3, 4}},
		{`[abc]{3}`, 4, []int{0, 2, 3, 4}},
		{`abc.*cab`, 1, nil},
		{`cab.*cab`, 1, []int{4}},
		{`abc+a`, 3, []int{4}},
		{`abc{2,}`, 0, nil},
		{`a[]`, 0, nil},
		{`[]`, 0, nil},
		{`[]|abc`, 3, []int{0, 2, 4}},
		{`ab`, 7, []int{0, 1, 2, 4}},
		{`^a`, 7, []int{0, 1, 6}},
		{`^a$`, 7, []int{6}},
		{`^$`, 7, []int{5}},
		{``, 7, []int{0, 1, 2, 3, 4, 5, 6}},
		{`.`, 7, []int{0, 1, 2, 3, 4, 6}},
		{`^..$`, 7, []int{1}},
		{`abc|$`, 7, []int{0, 1, 2, 3, 4, 5, 6}},
		{`\n`, 7, nil},
		{"\n", 7, nil},
		{"c\nab", 0, nil},
		{`zzz`, 0, nil},
		{`ABC`, 0, nil},
		{`\x61\x62\x63`, 3, []int{0, 2, 4}},
	}
	for _, c := range cases {
		checkSearch(t, "all open", stateOf(t, text), c.pattern, seen(7, c.want...))
		checkSearch(t, "all sealed", stateOf(t, "", text), c.pattern, seen(c.checked, c.want...))
		checkSearch(t, "a segment a line", stateOf(t, "", strings.SplitAfter(text, "\n")...), c.pattern, seen(c.checked, c.want...))
		var twice []int
		for _, position := range c.want {
			twice = append(twice, position+7)
		}
		checkSearch(t, "sealed and open", stateOf(t, text, text), c.pattern, seen(c.checked+7, append(slices.Clone(c.want), twice...)...))
	}
}

func TestSearchOfTheEmptyStore(t *testing.T) {
	for _, st := range []impl.State{{}, {Segs: [][]byte{}, Open: [][]byte{}}} {
		checkSearch(t, "empty", st, ``, seen(0))
		checkSearch(t, "empty", st, `error \d+$`, seen(0))
		checkSearch(t, "empty", st, `^.*a.{10}$`, impl.Answer{Road: impl.CodeBudget})
		checkSearch(t, "empty", st, `a**`, impl.Answer{Code: impl.CodeSyntax})
		checkSearch(t, "empty", st, `a{251}`, impl.Answer{Code: impl.CodeLimit})
	}
}

func TestSearchOfWrongPatterns(t *testing.T) {
	st := stateOf(t, "abc\n(", "abc\n\na**")
	for _, pattern := range []string{`(`, `a**`, `a$b`, `a^`, `\q`, `[b-a]`, `a{2,1}`, `*`, `)`, `a{251}(`} {
		checkSearch(t, "syntax", st, pattern, impl.Answer{Code: impl.CodeSyntax})
	}
	deep := func(n int) string { return strings.Repeat("(", n) + "abc" + strings.Repeat(")", n) }
	for _, pattern := range []string{`a{251}`, `(a{250}){3}`, strings.Repeat("a", 2001), strings.Repeat("(", 2001), deep(101), strings.Repeat("a", 501)} {
		checkSearch(t, "limit", st, pattern, impl.Answer{Code: impl.CodeLimit})
	}
	checkSearch(t, "MaxDepth groups", st, deep(100), seen(3, 0, 3))
	checkSearch(t, "MaxPattern bytes", st, "["+strings.Repeat("a", 1998)+"]", seen(5, 0, 2, 3))
	// Its skeleton ends with some of its bytes, so that it asks for a trigram.
	checkSearch(t, "a size of MaxSize", st, strings.Repeat("a", 500), seen(2))
}

// Patterns beyond the budget go by pending sets, and find the same lines.
func TestSearchByBothRoads(t *testing.T) {
	text := "b0123456789\na0123456789\naa012345678\n\na\naxxxxxxxxxx end"
	far := func(checked int, positions ...int) impl.Answer {
		return impl.Answer{Lines: positions, Checked: checked, Road: impl.CodeBudget}
	}
	cases := []struct {
		pattern string
		checked int // when all lines are sealed
		want    []int
		road    int
	}{
		{`^.*a.{10}$`, 6, []int{1, 2}, impl.CodeBudget},
		{`^[^]*a[^]{9}$`, 6, []int{2}, impl.CodeOK},
		{`^(b|[^]*a[^]{9})$`, 6, []int{2}, impl.CodeBudget},
		{`a.{10,}end|0123456789|a.{11}$`, 6, []int{0, 1, 5}, impl.CodeBudget},
		{`|a[^]{11}$`, 6, []int{0, 1, 2, 3, 4, 5}, impl.CodeBudget},
		{`0123.*a.{12}[]`, 0, nil, impl.CodeBudget},
		{`0123.*a.{12}$`, 3, nil, impl.CodeBudget},
		{`(0123|end)(a|.*b|.*c.{3}|)$`, 4, []int{5}, impl.CodeOK},
	}
	for _, c := range cases {
		want := seen
		if c.road == impl.CodeBudget {
			want = far
		}
		if road := slowPatternOf(c.pattern).road; road != c.road {
			t.Errorf("%q: the test is wrong: %d", c.pattern, road)
		}
		checkSearch(t, "all open", stateOf(t, text), c.pattern, want(6, c.want...))
		checkSearch(t, "all sealed", stateOf(t, "", text), c.pattern, want(c.checked, c.want...))
		checkSearch(t, "a segment a line", stateOf(t, "", strings.SplitAfter(text, "\n")...), c.pattern, want(c.checked, c.want...))
	}
	for k := 240; k <= 250; k++ {
		pattern := fmt.Sprintf(`^(x{%d}x{9}|y[^]*a[^]{8}|z[^]*a[^]{7})$`, k)
		_, road := impl.Compile(read(t, pattern))
		want := impl.Answer{Lines: []int{0, 3}, Checked: 4, Road: road}
		checkSearch(t, "around the budget", stateOf(t, "yya123\nzza1234567", strings.Repeat("x", k+9)+"\nyya123456789"), pattern, want)
	}
}

func TestSearchOfLongLines(t *testing.T) {
	long := strings.Repeat("ab", 10000)
	for _, st := range []impl.State{stateOf(t, long), stateOf(t, "", long), stateOf(t, long[:7000], long[:9000], long[:4000])} {
		count := len(st.Segs) + len(st.Open)
		all := countUp(0, count)
		checkSearch(t, "the table", st, `^(ab)*$`, seen(count, all...))
		checkSearch(t, "the table", st, `aa`, seen(count))
		checkSearch(t, "the table", st, `baba$`, seen(len(st.Open)+len(st.Segs)))
		checkSearch(t, "the table", st, `bbb`, seen(len(st.Open)))
		checkSearch(t, "pending sets", st, `^[^]*a[^]{11}$`, impl.Answer{Lines: all, Checked: count, Road: impl.CodeBudget})
		checkSearch(t, "pending sets", st, `^[^]*a[^]{10}$`, impl.Answer{Checked: count, Road: impl.CodeBudget})
	}
}

// As many segments as there can be: the answers of all come in order.
func TestSearchOfVeryManySegments(t *testing.T) {
	var segments []string
	var want []int
	for i := range 1000 {
		segments = append(segments, fmt.Sprintf("line %d\n", i))
		if i%10 == 7 {
			want = append(want, i)
		}
	}
	st := stateOf(t, "", segments...)
	for range 20 {
		checkSearch(t, "each line a segment", st, `^line \d*7$`, seen(1000, want...))
		checkSearch(t, "each line a segment", st, `line 5|zzz`, seen(111, slices.Concat([]int{5}, countUp(50, 10), countUp(500, 100))...))
	}
	var at sync.WaitGroup
	for range 8 {
		at.Add(1)
		go func() {
			defer at.Done()
			if got := impl.Search(st, []byte(`^line \d*7$`)); !sameAnswer(got, seen(1000, want...)) {
				t.Errorf("beside others: %s", shown(got))
			}
		}()
	}
	at.Wait()
}

func TestSearchLeavesItsArgumentsAlone(t *testing.T) {
	fresh := func() impl.State { return stateOf(t, "abcd\n\nxabc", "abc\nab", "xabc") }
	st, pattern := fresh(), []byte("abc")
	got := impl.Search(st, pattern)
	if !sameState(st, fresh()) || string(pattern) != "abc" {
		t.Error("an argument was changed")
	}
	spoilList(got.Lines)
	if again := impl.Search(st, pattern); !sameAnswer(again, seen(5, 0, 2, 3, 5)) {
		t.Errorf("the second time: %v", again)
	}
}

// Every line of up to three bytes, sealed and open, and short trees of all
// kinds: the filter loses none, also of those with no trigram.
func TestSearchOfEveryShortLine(t *testing.T) {
	all := slowStore{lines: linesOver("ab", 4), segs: []int{9, 1, 12}}
	st := all.state(t)
	choices := []impl.Op{lit('a'), set('a', 'b'), empty(), set(), cat(), alt(), rep(0, -1), rep(1, -1), rep(3, 4)}
	asked := 0
	for length := 1; length <= 5; length++ {
		eachList(choices, length, func(ops []impl.Op) {
			if theSize(ops) < 0 {
				return
			}
			asked++
			p := impl.Pattern{Left: asked%2 == 0, Right: asked%3 == 0, Tree: ops}
			text := string(impl.PrintPattern(p))
			checkSearch(t, "short", st, text, all.search(text))
		})
	}
	if asked < 1000 {
		t.Errorf("only %d patterns", asked)
	}
}

// Promise 15, with words of the pattern among the lines.
func TestSearchOfRolledStates(t *testing.T) {
	d := dice{state: 62}
	roller := wordRoller{d: &d}
	found, kept, lost := 0, 0, 0
	for range 1500 {
		ops := growTree(&d, 1+d.below(7))
		if d.below(2) == 0 {
			ops = growWideTree(&d, 1+d.below(4))
		}
		if theSize(ops) > 60 {
			continue
		}
		p := impl.Pattern{Left: d.below(3) == 0, Right: d.below(3) == 0, Tree: ops}
		texts := rollLines(&d, 8, 12)
		for range 5 {
			if word, ok := roller.roll(ops); ok && len(word) < 50 {
				texts = append(texts, bytes.ReplaceAll(rollAround(&d, p, word), []byte("\n"), nil))
			}
		}
		s := slowStore{lines: texts}
		for rest := len(texts) - d.below(4); rest > 0; rest -= s.segs[len(s.segs)-1] {
			s.segs = append(s.segs, 1+d.below(rest))
		}
		text := string(impl.PrintPattern(p))
		want := s.search(text)
		checkSearch(t, "rolled", s.state(t), text, want)
		found, kept, lost = found+len(want.Lines), kept+want.Checked, lost+len(texts)-want.Checked
	}
	if found < 3000 || kept-found < 1000 || lost < 1000 {
		t.Errorf("%d lines are found, %d looked at, %d not", found, kept, lost)
	}
}
