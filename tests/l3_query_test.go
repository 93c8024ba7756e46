package tests

import (
	"math"
	"slices"
	"testing"

	"loop.example/s0027/impl"
)

func TestTrigramsByHand(t *testing.T) {
	cases := []struct {
		line string
		want []int
	}{
		{"", nil},
		{"a", nil},
		{"ab", nil},
		{"abc", []int{number("abc")}},
		{"abcd", []int{number("abc"), number("bcd")}},
		{"dcba", []int{number("cba"), number("dcb")}},
		{"aaaa", []int{number("aaa")}},
		{"abab", []int{number("aba"), number("bab")}},
		{"ababab", []int{number("aba"), number("bab")}},
		{"\x00\x00\x00", []int{0}},
		{"\xff\xff\xff", []int{16777215}},
		{"\x01\x00\x00\x01", []int{1, 65536}},
		{"\x00\x01\x00", []int{256}},
		{"a\nb", []int{number("a\nb")}},
		{"\xff\xff\x00\x00\x01", []int{1, 16711680, 16776960}},
	}
	for _, c := range cases {
		if got := impl.Trigrams([]byte(c.line)); !slices.Equal(got, c.want) {
			t.Errorf("%q: got %v, want %v", c.line, got, c.want)
		}
	}
}

func wantedTrigrams(line []byte) []int {
	var out []int
	for i := 2; i < len(line); i++ {
		out = append(out, number(string(line[i-2:i+1])))
	}
	return joined(out, nil)
}

func TestTrigramsOfRolledLines(t *testing.T) {
	d := dice{state: 41}
	for range 3000 {
		line := make([]byte, d.below(40))
		alphabet := 1 + d.below(256)
		for i := range line {
			line[i] = byte(255 - d.below(alphabet))
		}
		before := slices.Clone(line)
		got := impl.Trigrams(line)
		if want := wantedTrigrams(before); !slices.Equal(got, want) || !slices.Equal(line, before) {
			t.Errorf("%v: got %v, want %v", before, got, want)
		}
		spoilList(got)
		if !slices.Equal(line, before) {
			t.Errorf("%v: shares memory with its line", before)
		}
	}
	long := make([]byte, impl.MaxBytes)
	for i := range long {
		long[i] = byte(i * i / 7)
	}
	if got := impl.Trigrams(long); !slices.Equal(got, wantedTrigrams(long)) {
		t.Error("a long line")
	}
}

func TestEvalByHand(t *testing.T) {
	cases := []struct {
		clauses [][]int
		tris    []int
		want    bool
	}{
		{nil, nil, false},
		{nil, []int{1}, false},
		{[][]int{}, []int{1}, false},
		{[][]int{{}}, nil, true},
		{[][]int{nil}, []int{1}, true},
		{[][]int{{1}, {}}, nil, true},
		{[][]int{{}, {1}}, nil, true},
		{[][]int{{1}}, nil, false},
		{[][]int{{1}}, []int{1}, true},
		{[][]int{{1}}, []int{2}, false},
		{[][]int{{1, 2}}, []int{1}, false},
		{[][]int{{1, 2}}, []int{2}, false},
		{[][]int{{1, 2}}, []int{1, 1}, false},
		{[][]int{{1, 1}}, []int{1}, true},
		{[][]int{{2, 1, 2}}, []int{1, 2}, true},
		{[][]int{{1, 2}}, []int{3, 2, 3, 1, 0}, true},
		{[][]int{{1, 2}, {3, 4}}, []int{1, 3}, false},
		{[][]int{{1, 2}, {3, 4}}, []int{1, 4}, false},
		{[][]int{{1, 2}, {3, 4}}, []int{4, 3}, true},
		{[][]int{{1}, {2}, {3}}, []int{1}, true},
		{[][]int{{1}, {2}, {3}}, []int{2}, true},
		{[][]int{{1}, {2}, {3}}, []int{3}, true},
		{[][]int{{1}, {2}, {3}}, []int{0, 4}, false},
		{[][]int{{-1}}, []int{-1}, true},
		{[][]int{{-1}}, []int{1}, false},
		{[][]int{{16777216, -5}}, []int{-5, 0, 16777216}, true},
		{[][]int{{math.MinInt, math.MaxInt}}, []int{math.MaxInt, math.MinInt}, true},
		{[][]int{{math.MinInt, math.MaxInt}}, []int{math.MaxInt}, false},
	}
	for _, c := range cases {
		if got := impl.EvalQuery(impl.Query{Clauses: c.clauses}, c.tris); got != c.want {
			t.Errorf("%v of %v: got %v", c.clauses, c.tris, got)
		}
	}
}

func rollList(d *dice, longest, least, below int) []int {
	var out []int
	for range d.below(longest + 1) {
		out = append(out, least+d.below(below-least))
	}
	return out
}

func rollClauses(d *dice, most, longest, least, below int) [][]int {
	var out [][]int
	for range d.below(most + 1) {
		out = append(out, rollList(d, longest, least, below))
	}
	return out
}

func TestEvalOfRolledQueries(t *testing.T) {
	d := dice{state: 42}
	for range 20000 {
		q := impl.Query{Clauses: rollClauses(&d, 5, 5, -4, 8)}
		tris := rollList(&d, 8, -4, 8)
		beforeClauses, beforeTris := copyLists(q.Clauses), slices.Clone(tris)
		if got := impl.EvalQuery(q, tris); got != trueOf(q, tris) {
			t.Errorf("%v of %v: got %v", q, tris, got)
		}
		if !sameLists(q.Clauses, beforeClauses) || !slices.Equal(tris, beforeTris) {
			t.Fatal("an argument was changed")
		}
	}
}

func TestEvalOfGreatQueries(t *testing.T) {
	many := impl.Query{Clauses: slices.Repeat([][]int{{7, 9}}, 1000000)}
	if impl.EvalQuery(many, []int{7, 8}) {
		t.Error("no clause is held")
	}
	many.Clauses[999999] = []int{8}
	if !impl.EvalQuery(many, []int{7, 8}) {
		t.Error("the last clause is held")
	}
	long := make([]int, 1000000)
	for i := range long {
		long[i] = -i
	}
	if !impl.EvalQuery(impl.Query{Clauses: [][]int{long}}, long) || impl.EvalQuery(impl.Query{Clauses: [][]int{long}}, long[1:]) {
		t.Error("one long clause")
	}
}

func TestNormalByHand(t *testing.T) {
	cases := []struct {
		in, want [][]int
	}{
		{nil, nil},
		{[][]int{}, nil},
		{[][]int{{}}, [][]int{{}}},
		{[][]int{nil, {}, nil}, [][]int{{}}},
		{[][]int{{}, {1}}, [][]int{{}}},
		{[][]int{{0}, {}, {1, 2}}, [][]int{{}}},
		{[][]int{{1}}, [][]int{{1}}},
		{[][]int{{1, 1, 1}}, [][]int{{1}}},
		{[][]int{{3, 1, 2, 1}}, [][]int{{1, 2, 3}}},
		{[][]int{{2}, {1}}, [][]int{{1}, {2}}},
		{[][]int{{1}, {1}}, [][]int{{1}}},
		{[][]int{{1, 2}, {2, 1}, {2, 1, 2}}, [][]int{{1, 2}}},
		{[][]int{{1, 2}, {1}}, [][]int{{1}}},
		{[][]int{{1}, {1, 2}}, [][]int{{1}}},
		{[][]int{{1, 2}, {2}}, [][]int{{2}}},
		{[][]int{{2}, {1, 2}}, [][]int{{2}}},
		{[][]int{{1, 2, 3}, {2, 3}, {3}}, [][]int{{3}}},
		{[][]int{{1, 2, 3}, {1, 3}, {1, 2}}, [][]int{{1, 2}, {1, 3}}},
		{[][]int{{1, 2, 3, 4}, {2, 4}, {1, 5}}, [][]int{{1, 5}, {2, 4}}},
		{[][]int{{1, 3}, {1, 2}, {2, 3}}, [][]int{{1, 2}, {1, 3}, {2, 3}}},
		{[][]int{{2, 10}, {10}, {2}}, [][]int{{2}, {10}}},
		{[][]int{{1, 2, 4}, {1, 3}}, [][]int{{1, 2, 4}, {1, 3}}},
		{[][]int{{10}, {9, 200}, {9, 100, 300}}, [][]int{{9, 100, 300}, {9, 200}, {10}}},
		{[][]int{{0}}, [][]int{{0}}},
		{[][]int{{16777215}}, [][]int{{16777215}}},
		{[][]int{{16777215, 0, 16777215}, {5}}, [][]int{{0, 16777215}, {5}}},
		{[][]int{{-1}}, nil},
		{[][]int{{16777216}}, nil},
		{[][]int{{}, {-1}}, nil},
		{[][]int{{}, {16777216}}, nil},
		{[][]int{{1}, {1, 2, 16777216}}, nil},
		{[][]int{{-1, 1}, {1}}, nil},
		{[][]int{{1}, {2, math.MaxInt}}, nil},
		{[][]int{{1}, {math.MinInt}}, nil},
	}
	for _, c := range cases {
		if got := impl.NormQuery(impl.Query{Clauses: c.in}); !sameLists(got.Clauses, c.want) {
			t.Errorf("%v: got %v, want %v", c.in, got, c.want)
		}
	}
}

func countUp(from, count int) []int {
	out := make([]int, count)
	for i := range out {
		out[i] = from + i
	}
	return out
}

func TestNormalAtItsLimits(t *testing.T) {
	check := func(name string, in, want [][]int) {
		t.Helper()
		if got := impl.NormQuery(impl.Query{Clauses: in}); !sameLists(got.Clauses, want) {
			t.Errorf("%s: got %.80v, want %.80v", name, got, want)
		}
	}
	var singles, turned [][]int
	for i := range impl.MaxClauses {
		singles = append(singles, []int{i})
		turned = append(turned, []int{impl.MaxClauses - 1 - i})
	}
	check("MaxClauses clauses", turned, singles)
	check("one clause more", append(slices.Clone(turned), []int{5000}), nil)
	check("one clause more, repeated", append(slices.Clone(turned), []int{5}), nil)
	check("one clause more, empty", append(slices.Clone(turned), []int{}), nil)
	check("MaxClauses equal clauses", slices.Repeat([][]int{{4, 3}}, impl.MaxClauses), [][]int{{3, 4}})
	check("one more equal clause", slices.Repeat([][]int{{4, 3}}, impl.MaxClauses+1), nil)
	check("MaxClauses empty clauses", make([][]int, impl.MaxClauses), [][]int{{}})
	check("one more empty clause", make([][]int, impl.MaxClauses+1), nil)
	long := countUp(16777216-impl.MaxClauseLen, impl.MaxClauseLen)
	back := slices.Clone(long)
	slices.Reverse(back)
	check("MaxClauseLen numbers", [][]int{back, {3}}, [][]int{{3}, long})
	check("one number more", [][]int{append(slices.Clone(long), 7), {3}}, nil)
	check("one number more, in a clause behind", [][]int{{3}, append(slices.Clone(long), 7)}, nil)
	check("MaxClauseLen repeated numbers", [][]int{make([]int, impl.MaxClauseLen)}, [][]int{{0}})
	check("one more repeated number", [][]int{make([]int, impl.MaxClauseLen+1)}, nil)
	check("both at once", slices.Repeat([][]int{back}, impl.MaxClauses), [][]int{long})
	check("a number too great at the very end", append(slices.Clone(turned[1:]), append(slices.Clone(long[1:]), 16777216)), nil)
}

// Clauses that are alike for long and of many lengths take the longest to be
// held against each other.
func TestNormalOfTheGreatestQueries(t *testing.T) {
	var stairs, apart [][]int
	for i := range impl.MaxClauses {
		stairs = append(stairs, countUp(0, i+1))
		apart = append(apart, append(countUp(0, i/2+499), 100000+i))
	}
	slices.Reverse(stairs)
	if got := impl.NormQuery(impl.Query{Clauses: stairs}); !sameLists(got.Clauses, [][]int{{0}}) {
		t.Errorf("stairs: %.80v", got)
	}
	if got := impl.NormQuery(impl.Query{Clauses: apart}); len(got.Clauses) != impl.MaxClauses {
		t.Errorf("apart: %d clauses", len(got.Clauses))
	}
}

// shuffled puts clauses and numbers in another order and repeats some.
func shuffled(d *dice, clauses [][]int) [][]int {
	out := copyLists(clauses)
	for range d.below(4) {
		if len(out) > 0 {
			out = append(out, slices.Clone(out[d.below(len(out))]))
		}
	}
	for i := range out {
		for range d.below(4) {
			if len(out[i]) > 0 {
				out[i] = append(out[i], out[i][d.below(len(out[i]))])
			}
		}
		for j := range out[i] {
			k := d.below(j + 1)
			out[i][j], out[i][k] = out[i][k], out[i][j]
		}
		k := d.below(i + 1)
		out[i], out[k] = out[k], out[i]
	}
	return out
}

func TestNormalOfRolledQueries(t *testing.T) {
	d := dice{state: 43}
	const kinds = 7
	for range 4000 {
		q := impl.Query{Clauses: rollClauses(&d, 7, 5, 0, kinds)}
		got := impl.NormQuery(q)
		if want := wantedNormal(q.Clauses); !sameLists(got.Clauses, want) {
			t.Fatalf("%v: got %v, want %v", q, got, want)
		}
		for bits := range 1 << kinds {
			var tris []int
			for n := range kinds {
				if bits>>n&1 == 1 {
					tris = append(tris, n)
				}
			}
			if impl.EvalQuery(got, tris) != trueOf(q, tris) {
				t.Fatalf("%v: normal %v is true, or not, of %v", q, got, tris)
			}
		}
		if again := impl.NormQuery(got); !sameLists(again.Clauses, got.Clauses) {
			t.Errorf("%v: again: %v", q, again)
		}
		other := impl.Query{Clauses: shuffled(&d, q.Clauses)}
		if alike := impl.NormQuery(other); !sameLists(alike.Clauses, got.Clauses) {
			t.Errorf("%v and %v: %v and %v", q, other, got, alike)
		}
	}
}

func TestNormalAnswersNewMemory(t *testing.T) {
	for _, clauses := range [][][]int{
		{{5, 3, 5}, {7, 9}, {1, 2, 4}, {7, 9}, {8}},
		{{1, 2}, {3, 4}, {5, 6, 7}},
		{{1}, {2}, {2}},
	} {
		q := impl.Query{Clauses: copyLists(clauses)}
		want := wantedNormal(clauses)
		got := impl.NormQuery(q)
		if !sameLists(q.Clauses, clauses) {
			t.Fatalf("%v: the argument was changed to %v", clauses, q)
		}
		for i := range q.Clauses {
			spoilList(q.Clauses[i])
			q.Clauses[i] = nil
		}
		if !sameLists(got.Clauses, want) {
			t.Errorf("%v: the answer shares memory with the argument", clauses)
		}
		checkOwnLists(t, "NormQuery", got.Clauses)
	}
	// One list in several places of the argument is several in the answer.
	list := []int{1, 2, 3}
	got := impl.NormQuery(impl.Query{Clauses: [][]int{list[:2], list[1:], list[2:]}})
	if !sameLists(got.Clauses, [][]int{{1, 2}, {3}}) || !slices.Equal(list, []int{1, 2, 3}) {
		t.Errorf("got %v", got)
	}
	checkOwnLists(t, "one list in several places", got.Clauses)
}

func TestQueryByHand(t *testing.T) {
	abc, bcd, cde, xyz := number("abc"), number("bcd"), number("cde"), number("xyz")
	none := [][]int{{}}
	cases := []struct {
		text string
		want [][]int
	}{
		{``, none},
		{`a`, none},
		{`ab`, none},
		{`abc`, [][]int{{abc}}},
		{`^abc$`, [][]int{{abc}}},
		{`abcd`, [][]int{{abc, bcd}}},
		{`abcd|xyz`, [][]int{{abc, bcd}, {xyz}}},
		{`xyz|abcd`, [][]int{{abc, bcd}, {xyz}}},
		{`abcd|bcd`, [][]int{{bcd}}},
		{`abcd|bcde`, [][]int{{abc, bcd}, {bcd, cde}}},
		{`abcde|bcd|abcd`, [][]int{{bcd}}},
		{`abc|ab`, none},
		{`abc|`, none},
		{`abc?`, none},
		{`abcd?`, [][]int{{abc}}},
		{`a.*b`, none},
		{`ab.cd`, none},
		{`abc.xyz`, [][]int{{abc, xyz}}},
		{`xyz.abc`, [][]int{{abc, xyz}}},
		{`abc.*ab`, [][]int{{abc}}},
		{`ab.*abc`, [][]int{{abc}}},
		{`a()b()c`, [][]int{{abc}}},
		{`[]`, nil},
		{`abc[]`, nil},
		{`[]|abc`, [][]int{{abc}}},
		{`[]+`, nil},
		{`[]*`, none},
		{`(abc)*`, none},
		{`(abc)+`, [][]int{{abc}}},
		{`(abc|xyz)+`, [][]int{{abc}, {xyz}}},
		{`aaaa`, [][]int{{number("aaa")}}},
		{`a{60}`, [][]int{{number("aaa")}}},
		{`a{61}`, none},
		{`a{61}bcd`, [][]int{{bcd}}},
		{`ab[cd]`, [][]int{{abc}, {number("abd")}}},
		{`[\x00\xff]{3}`, [][]int{{0}, {255}, {65280}, {65535}, {16711680}, {16711935}, {16776960}, {16777215}}},
		{`ab[a-h]`, [][]int{{number("aba")}, {number("abb")}, {abc}, {number("abd")}, {number("abe")}, {number("abf")}, {number("abg")}, {number("abh")}}},
		{`ab[a-i]`, none},
		{`abc[a-i]xyz`, [][]int{{abc, xyz}}},
		{`error \d+`, [][]int{{number("err"), number("ror"), number("rro"), number("or ")}}},
	}
	for _, c := range cases {
		want := wantedNormal(c.want)
		if got := impl.QueryOf(read(t, c.text)); !sameLists(got.Clauses, want) {
			t.Errorf("%q: got %v, want %v", c.text, got, want)
		}
	}
	for _, p := range wrongPatterns() {
		if got := impl.QueryOf(p); len(got.Clauses) != 0 {
			t.Errorf("%.80v: got %v", p, got)
		}
	}
}

// checkNeverLoses fails if a line in M is one that the query is not true of.
func checkNeverLoses(t *testing.T, p impl.Pattern, q impl.Query, line []byte) {
	t.Helper()
	tris := impl.Trigrams(line)
	if !impl.EvalQuery(q, tris) || !trueOf(q, wantedTrigrams(line)) {
		t.Errorf("%.200v: %v loses %q", p, q, line)
	}
}

func TestQueryNeverLosesAShortLine(t *testing.T) {
	lines := linesOver("abc", 4)
	choices := append(shortTreeChoices(), rep(3, 3))
	for length := 1; length <= 4; length++ {
		eachList(choices, length, func(list []impl.Op) {
			if theSize(list) < 0 {
				return
			}
			if got := impl.QueryOf(impl.Pattern{Tree: list}); !sameLists(got.Clauses, wantedQuery(list)) {
				t.Errorf("%v: got %v, want %v", list, got, wantedQuery(list))
			}
			eachAnchoring(list, func(p impl.Pattern) {
				q := impl.QueryOf(p)
				for _, line := range lines {
					if inLanguage(p, line) {
						checkNeverLoses(t, p, q, line)
					}
				}
			})
		})
	}
}

// rollAround puts bytes in front of a word and behind it, where the anchors
// allow it.
func rollAround(d *dice, p impl.Pattern, word []byte) []byte {
	var front, back []byte
	for range d.below(4) {
		front, back = append(front, byte(d.below(256))), append(back, byte('a'+d.below(3)))
	}
	if p.Left {
		front = nil
	}
	if p.Right {
		back = nil
	}
	return slices.Concat(front, word, back)
}

func TestQueryNeverLosesARolledLine(t *testing.T) {
	d := dice{state: 44}
	roller := wordRoller{d: &d}
	asked, selective := 0, 0
	for i := range 3000 {
		ops := growTree(&d, 1+d.below(12))
		if i%3 > 0 {
			ops = growWideTree(&d, 1+d.below(8))
		}
		if theSize(ops) > impl.MaxSize {
			continue
		}
		p := impl.Pattern{Left: d.below(2) == 0, Right: d.below(2) == 0, Tree: ops}
		q := impl.QueryOf(p)
		if want := wantedQuery(ops); !sameLists(q.Clauses, want) {
			t.Fatalf("%.200v: got %v, want %v", p, q, want)
		}
		for range 5 {
			word, ok := roller.roll(ops)
			if !ok {
				continue
			}
			asked++
			if !impl.EvalQuery(q, nil) {
				selective++
			}
			checkNeverLoses(t, p, q, rollAround(&d, p, word))
		}
	}
	if asked < 8000 || selective < 2000 {
		t.Errorf("only %d lines, %d of them behind a query that filters", asked, selective)
	}
}

func TestQueryLosesLinesThatCannotMatch(t *testing.T) {
	p := read(t, `error (code|level) \d+`)
	for _, c := range []struct {
		line string
		want bool
	}{
		{"error code 17", true},
		{"an error level 3 again", true},
		{"level 3 error code 4", true},
		{"error cod 17", false},
		{"eror code 17", false},
		{"er", false},
		{"", false},
		{"code error ", false},
	} {
		if got := impl.EvalQuery(impl.QueryOf(p), impl.Trigrams([]byte(c.line))); got != c.want {
			t.Errorf("%q: got %v", c.line, got)
		}
	}
}

func TestQueryAnswersNewMemory(t *testing.T) {
	for _, text := range []string{`abcd|wxyz|[mn]opq`, `(abc|def)+`, `abcdefg`} {
		p := read(t, text)
		before := copyTree(p.Tree)
		got := impl.QueryOf(p)
		if !sameTree(p.Tree, before) {
			t.Fatalf("%q: the argument was changed", text)
		}
		want := wantedQuery(before)
		spoil(p.Tree)
		if !sameLists(got.Clauses, want) {
			t.Errorf("%q: the answer shares memory with the argument", text)
		}
		checkOwnLists(t, text, got.Clauses)
	}
}
