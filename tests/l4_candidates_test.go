package tests

import (
	"bytes"
	"math"
	"slices"
	"testing"

	"loop.example/s0027/impl"
)

func checkCandidates(t *testing.T, name string, s impl.Segment, clauses [][]int, want []int) {
	t.Helper()
	if got := impl.Candidates(s, impl.Query{Clauses: clauses}); !slices.Equal(got, want) {
		t.Errorf("%s: got %.200v, want %.200v", name, got, want)
	}
}

func TestCandidatesByHand(t *testing.T) {
	abc, bcd, xab := number("abc"), number("bcd"), number("xab")
	s := build(t, 10, "abcd", "ab", "xabc", "", "xab bcd", "bcd")
	all := []int{10, 11, 12, 13, 14, 15}
	cases := []struct {
		name    string
		clauses [][]int
		want    []int
	}{
		{"no clause", nil, nil},
		{"no clause, not nil", [][]int{}, nil},
		{"an empty clause", [][]int{{}}, all},
		{"a nil clause", [][]int{nil}, all},
		{"an empty clause behind one that holds for none", [][]int{{5}, {}}, all},
		{"an empty clause in front", [][]int{{}, {abc}}, all},
		{"one number", [][]int{{abc}}, []int{10, 12}},
		{"one number, twice", [][]int{{abc, abc}}, []int{10, 12}},
		{"two numbers", [][]int{{abc, bcd}}, []int{10}},
		{"two numbers, turned round", [][]int{{bcd, abc}}, []int{10}},
		{"two numbers apart", [][]int{{xab, bcd}}, []int{14}},
		{"three numbers", [][]int{{abc, bcd, xab}}, nil},
		{"two clauses", [][]int{{xab}, {abc}}, []int{10, 12, 14}},
		{"two clauses that say the same", [][]int{{abc}, {abc}}, []int{10, 12}},
		{"one clause within another", [][]int{{abc, bcd}, {bcd}}, []int{10, 14, 15}},
		{"a number that no line holds", [][]int{{number("zzz")}}, nil},
		{"and in front of one that some hold", [][]int{{number("zzz"), abc}}, nil},
		{"and behind it", [][]int{{abc, number("zzz")}}, nil},
		{"beside a clause that some hold", [][]int{{abc, number("zzz")}, {abc}}, []int{10, 12}},
		{"numbers that are no trigram's", [][]int{{-1}, {16777216}, {math.MinInt}, {math.MaxInt}, {-1, abc}}, nil},
	}
	for _, c := range cases {
		checkCandidates(t, c.name, s, c.clauses, c.want)
	}
}

func TestCandidatesOfSegmentsThatNoBuildingMade(t *testing.T) {
	three := lines("", "abc", "x")
	cases := []struct {
		name    string
		s       impl.Segment
		clauses [][]int
		want    []int
	}{
		{"the zero segment", impl.Segment{}, [][]int{{}}, nil},
		{"no line", impl.Segment{Keys: []int{1}, Posts: [][]int{{0}}}, [][]int{{1}}, nil},
		{"no key", impl.Segment{Lines: three}, [][]int{{number("abc")}}, nil},
		{"the lines are not read", impl.Segment{Base: 3, Lines: three, Keys: []int{7}, Posts: [][]int{{3, 5}}}, [][]int{{7}}, []int{3, 5}},
		{"a newline in a line", impl.Segment{Lines: lines("\n"), Keys: []int{7}, Posts: [][]int{{0}}}, [][]int{{7}}, []int{0}},
		{"a line of many bytes", impl.Segment{Lines: [][]byte{make([]byte, 30000)}, Keys: []int{7}, Posts: [][]int{{0}}}, [][]int{{7}}, []int{0}},
		{"keys out of order", impl.Segment{Lines: three, Keys: []int{9, 2}, Posts: [][]int{{1}, {2}}}, [][]int{{2}}, []int{2}},
		{"repeated keys", impl.Segment{Lines: three, Keys: []int{9, 2, 9}, Posts: [][]int{{2}, {1}, {0}}}, [][]int{{9}}, []int{0, 2}},
		{"repeated keys, both asked for", impl.Segment{Lines: three, Keys: []int{9, 2, 9}, Posts: [][]int{{2}, {1, 0}, {0}}}, [][]int{{9, 2}}, []int{0}},
		{"keys that are no trigram's", impl.Segment{Lines: three, Keys: []int{-1, math.MaxInt}, Posts: [][]int{{2, 1}, {1}}}, [][]int{{math.MaxInt, -1}}, []int{1}},
		{"positions out of order and repeated", impl.Segment{Lines: three, Keys: []int{9}, Posts: [][]int{{2, 0, 2, 0, 0}}}, [][]int{{9}}, []int{0, 2}},
		{"positions of no line", impl.Segment{Base: 3, Lines: three, Keys: []int{9}, Posts: [][]int{{2, 6, -1, 0, 4, math.MaxInt, math.MinInt}}}, [][]int{{9}}, []int{4}},
		{"fewer lists than keys", impl.Segment{Lines: three, Keys: []int{1, 2, 3}, Posts: [][]int{{1}}}, [][]int{{2}, {3}}, nil},
		{"fewer lists than keys, the first", impl.Segment{Lines: three, Keys: []int{1, 2, 3}, Posts: [][]int{{1}}}, [][]int{{1}}, []int{1}},
		{"fewer keys than lists", impl.Segment{Lines: three, Keys: []int{1}, Posts: [][]int{{1}, {0}, {2}}}, [][]int{{1}}, []int{1}},
		{"keys and no list", impl.Segment{Lines: three, Keys: []int{1}}, [][]int{{1}}, nil},
		{"lists and no key", impl.Segment{Lines: three, Posts: [][]int{{0}}}, [][]int{{0}}, nil},
		{"a base below 0", impl.Segment{Base: -2, Lines: three, Keys: []int{1}, Posts: [][]int{{0, -1, 1}}}, [][]int{{1}}, []int{-1, 0}},
		{"a sum that wraps", impl.Segment{Base: math.MaxInt, Lines: three, Keys: []int{1}, Posts: [][]int{{math.MinInt, math.MinInt + 1, 1}}}, [][]int{{1}}, []int{math.MinInt, math.MinInt + 1}},
		{"a sum that wraps, all", impl.Segment{Base: math.MaxInt - 1, Lines: three}, [][]int{{}}, []int{math.MaxInt - 1, math.MaxInt, math.MinInt}},
		{"a difference that wraps", impl.Segment{Base: math.MinInt, Lines: three, Keys: []int{1}, Posts: [][]int{{math.MaxInt, 0, math.MinInt + 2, math.MinInt + 3}}}, [][]int{{1}}, []int{math.MinInt + 2}},
	}
	for _, c := range cases {
		checkCandidates(t, c.name, c.s, c.clauses, c.want)
		if want := wantedCandidates(c.s, impl.Query{Clauses: c.clauses}); !slices.Equal(want, c.want) {
			t.Errorf("%s: the test is wrong: %v", c.name, want)
		}
	}
}

func TestCandidatesAtTheLimits(t *testing.T) {
	all := [][]int{{}}
	one := lines("a")
	everyLine := countUp(7, impl.MaxLines)
	many := impl.Segment{Base: 7, Lines: make([][]byte, impl.MaxLines)}
	checkCandidates(t, "MaxLines lines", many, all, everyLine)
	many.Lines = append(many.Lines, nil)
	checkCandidates(t, "one line more", many, all, nil)

	keys := impl.Segment{Lines: one, Keys: countUp(0, impl.MaxBytes), Posts: slices.Repeat([][]int{{0}}, impl.MaxBytes)}
	last := [][]int{{impl.MaxBytes - 1, 0}}
	checkCandidates(t, "MaxBytes keys", keys, last, []int{0})
	keys.Posts = append(keys.Posts, []int{0}, []int{0}, nil)
	checkCandidates(t, "more lists than that", keys, last, []int{0})
	keys.Keys = append(keys.Keys, 5)
	checkCandidates(t, "one key more", keys, last, nil)
	checkCandidates(t, "one key more, an empty clause", keys, all, nil)
	keys.Posts = nil
	checkCandidates(t, "one key more and no list", keys, all, nil)
	checkCandidates(t, "very many lists", impl.Segment{Lines: one, Posts: make([][]int, 1000000)}, all, []int{0})

	positions := impl.Segment{Lines: one, Keys: []int{1, 2}, Posts: [][]int{{0}, make([]int, impl.MaxLines)}}
	checkCandidates(t, "MaxLines positions", positions, [][]int{{1, 2}}, []int{0})
	positions.Posts[1] = make([]int, impl.MaxLines+1)
	checkCandidates(t, "one position more", positions, [][]int{{1}}, nil)
	checkCandidates(t, "one position more, an empty clause", positions, all, nil)
	positions.Keys = positions.Keys[:1]
	checkCandidates(t, "one position more, of no key", positions, [][]int{{1}}, nil)
	positions.Posts[1] = positions.Posts[1][1:]
	checkCandidates(t, "MaxLines positions, of no key", positions, [][]int{{1}}, []int{0})

	small := impl.Segment{Lines: one, Keys: []int{1}, Posts: [][]int{{0}}}
	clauses := append(slices.Repeat([][]int{{2}}, impl.MaxClauses-1), []int{1})
	checkCandidates(t, "MaxClauses clauses", small, clauses, []int{0})
	checkCandidates(t, "one clause more", small, append(clauses, []int{1}), nil)
	checkCandidates(t, "one clause more, all empty", small, make([][]int, impl.MaxClauses+1), nil)
	checkCandidates(t, "MaxClauses clauses, all empty", small, make([][]int, impl.MaxClauses), []int{0})
	clause := slices.Repeat([]int{1}, impl.MaxClauseLen)
	checkCandidates(t, "MaxClauseLen numbers", small, [][]int{{2}, clause}, []int{0})
	checkCandidates(t, "one number more", small, [][]int{{2}, append(clause, 1)}, nil)
	checkCandidates(t, "one number more, behind a clause that holds", small, [][]int{{1}, append(clause, 1)}, nil)
	checkCandidates(t, "one number more, in front of one", small, [][]int{append(clause, 1), {}}, nil)
}

// Each number of lines, with candidates in every place.
func TestCandidatesOfEveryLine(t *testing.T) {
	for _, count := range []int{1, 2, 62, 63, 64, 65, 127, 128, 129, 500, 999, 1000} {
		s := impl.Segment{Base: 100, Lines: make([][]byte, count)}
		for i := range count {
			s.Keys = append(s.Keys, i%7, 1000+i)
			s.Posts = append(s.Posts, []int{100 + i}, []int{100 + i, 100 + (i+64)%count})
		}
		checkCandidates(t, "all", s, [][]int{{}}, countUp(100, count))
		for i := range count {
			want := []int{100 + i}
			if other := 100 + (i+64)%count; other != 100+i {
				want = joined(want, []int{other})
			}
			checkCandidates(t, "two", s, [][]int{{1000 + i}}, want)
			checkCandidates(t, "one of two", s, [][]int{{1000 + i, i % 7}}, slices.DeleteFunc(want, func(x int) bool { return (x-100)%7 != i%7 }))
		}
		for rest := range 7 {
			var want []int
			for i := rest; i < count; i += 7 {
				want = append(want, 100+i)
			}
			checkCandidates(t, "a seventh", s, [][]int{{rest}}, want)
		}
	}
}

// Promise 12: of a built segment, the candidates are the lines of whose
// trigrams the query is true.
func TestCandidatesOfRolledSegments(t *testing.T) {
	d := dice{state: 55}
	found, kept := 0, 0
	for range 4000 {
		texts := rollLines(&d, 15, 10)
		s := buildLines(t, d.below(900), texts)
		var q impl.Query
		for range d.below(4) {
			var clause []int
			for range d.below(5) {
				if len(s.Keys) > 0 && d.below(8) > 0 {
					clause = append(clause, s.Keys[d.below(len(s.Keys))])
				} else {
					clause = append(clause, d.below(16777218)-1)
				}
			}
			q.Clauses = append(q.Clauses, clause)
		}
		var want []int
		for i, text := range texts {
			if trueOf(q, wantedTrigrams(text)) != impl.EvalQuery(q, impl.Trigrams(text)) {
				t.Fatalf("%q: EvalQuery of %v", text, q)
			}
			if trueOf(q, wantedTrigrams(text)) {
				want = append(want, s.Base+i)
			}
		}
		found, kept = found+len(want), kept+len(texts)-len(want)
		checkCandidates(t, "rolled", s, q.Clauses, want)
	}
	if found < 1000 || kept < 1000 {
		t.Errorf("%d lines are found, %d are not", found, kept)
	}
}

func TestCandidatesOfRolledPatterns(t *testing.T) {
	d := dice{state: 56}
	roller := wordRoller{d: &d}
	left, seen := 0, 0
	for range 600 {
		p := impl.Pattern{Left: d.below(3) == 0, Right: d.below(3) == 0, Tree: growTree(&d, 1+d.below(8))}
		if theSize(p.Tree) > impl.MaxSize {
			continue
		}
		texts := rollLines(&d, 8, 12)
		for range 4 {
			if word, ok := roller.roll(p.Tree); ok && len(word) < 50 {
				texts = append(texts, bytes.ReplaceAll(rollAround(&d, p, word), []byte("\n"), nil))
			}
		}
		s := buildLines(t, 3, texts)
		got := impl.Candidates(s, impl.QueryOf(p))
		for i, text := range texts {
			in := impl.MatchLine(p, text)
			if in && !slices.Contains(got, 3+i) {
				t.Errorf("%v: the line %q is lost", p, text)
			}
			if in {
				left++
			}
			seen++
		}
	}
	if left < 500 || seen-left < 500 {
		t.Errorf("%d of %d lines are in M", left, seen)
	}
}

func rollOddSegment(d *dice) impl.Segment {
	s := impl.Segment{Base: d.below(7) - 3, Lines: make([][]byte, d.below(6))}
	switch d.below(6) {
	case 0:
		s.Base += math.MaxInt
	case 1:
		s.Base += math.MinInt
	}
	s.Keys = rollList(d, 6, -2, 4)
	for range d.below(7) {
		var post []int
		for range d.below(5) {
			post = append(post, s.Base+d.below(10)-2)
		}
		s.Posts = append(s.Posts, post)
	}
	return s
}

func TestCandidatesOfRolledOddSegments(t *testing.T) {
	d := dice{state: 57}
	for range 30000 {
		s, q := rollOddSegment(&d), impl.Query{Clauses: rollClauses(&d, 4, 3, -2, 4)}
		beforeS, beforeQ := copySegment(s), copyLists(q.Clauses)
		want := wantedCandidates(s, q)
		got := impl.Candidates(s, q)
		if !slices.Equal(got, want) {
			t.Fatalf("%v of %v: got %v, want %v", q, s, got, want)
		}
		spoilList(got)
		if !sameSegment(s, beforeS) || !sameLists(q.Clauses, beforeQ) {
			t.Fatal("an argument was changed")
		}
	}
}

// All limits at once: lists that are long and go together until the last.
func TestCandidatesOfTheGreatest(t *testing.T) {
	s := impl.Segment{Lines: make([][]byte, impl.MaxLines)}
	for key := range impl.MaxBytes {
		post := countUp(0, impl.MaxLines)
		post[key%impl.MaxLines] = -1
		s.Keys, s.Posts = append(s.Keys, key), append(s.Posts, post)
	}
	var q impl.Query
	for c := range impl.MaxClauses {
		q.Clauses = append(q.Clauses, countUp(c*19, impl.MaxClauseLen))
	}
	checkCandidates(t, "no line is in all lists of a clause", s, q.Clauses, nil)
	q.Clauses[999] = q.Clauses[999][1:]
	checkCandidates(t, "one line is", s, q.Clauses, []int{999 * 19 % 1000})
	for key := range s.Keys {
		s.Keys[key] = 5
	}
	checkCandidates(t, "one key in all places", s, [][]int{{5, 6}, {5}}, countUp(0, impl.MaxLines))
}
