package tests

import (
	"fmt"
	"slices"
	"testing"

	"loop.example/s0027/impl"
)

// classesAt answers the classes of a table in which a new class begins at each
// of the given bytes.
func classesAt(bytes ...int) []int {
	out := make([]int, 256)
	for b := range out {
		for _, first := range bytes {
			if b >= first {
				out[b]++
			}
		}
	}
	return out
}

func TestCompileByHand(t *testing.T) {
	onlyA := make([]int, 256)
	onlyA['a'] = 1
	cases := []struct {
		text string
		want impl.DFA
	}{
		{`^a$`, impl.DFA{Class: onlyA, NClass: 2, Next: []int{1, 2, 1, 1, 1, 1}, Accept: []bool{false, false, true}}},
		{`a`, impl.DFA{Class: onlyA, NClass: 2, Next: []int{0, 1, 1, 1}, Accept: []bool{false, true}}},
		{`^a`, impl.DFA{Class: onlyA, NClass: 2, Next: []int{1, 2, 1, 1, 2, 2}, Accept: []bool{false, false, true}}},
		{`a$`, impl.DFA{Class: onlyA, NClass: 2, Next: []int{0, 1, 0, 1}, Accept: []bool{false, true}}},
		{``, impl.DFA{Class: classesAt(), NClass: 1, Next: []int{0}, Accept: []bool{true}}},
		{`^$`, impl.DFA{Class: classesAt(), NClass: 1, Next: []int{1, 1}, Accept: []bool{true, false}}},
		{`[]`, impl.DFA{Class: classesAt(), NClass: 1, Next: []int{0}, Accept: []bool{false}}},
		{`^[^]$`, impl.DFA{Class: classesAt(), NClass: 1, Next: []int{1, 2, 2}, Accept: []bool{false, true, false}}},
		{`^([\x80-\xff]|a[]|[\x00-\x7f]{2})$`, impl.DFA{Class: classesAt(128), NClass: 2, Next: []int{1, 2, 2, 3, 3, 3, 3, 3}, Accept: []bool{false, false, true, false}}},
		{`[a-z]|[b-z]|a`, impl.DFA{Class: onlyLetters(), NClass: 2, Next: []int{0, 1, 1, 1}, Accept: []bool{false, true}}},
	}
	for _, c := range cases {
		got, code := impl.Compile(read(t, c.text))
		if code != impl.CodeOK || !sameTable(got, c.want) {
			t.Errorf("%q: got code %d and %v, want %v", c.text, code, got, c.want)
		}
	}
}

func onlyLetters() []int {
	out := make([]int, 256)
	for b := 'a'; b <= 'z'; b++ {
		out[b] = 1
	}
	return out
}

func TestCompileOfWrongPatterns(t *testing.T) {
	for _, p := range wrongPatterns() {
		if got, code := impl.Compile(p); code != impl.CodeBad || !isZeroTable(got) {
			t.Errorf("%.80v: got code %d and %v", p, code, got)
		}
	}
}

// checkCompile holds Compile against the pending sets of the pattern, and
// answers its code.
func checkCompile(t *testing.T, p impl.Pattern) int {
	t.Helper()
	name := fmt.Sprint(p)
	auto := wantedAuto(p)
	want := impl.CodeOK
	if countWaiting(auto, impl.MaxSets) > impl.MaxSets {
		want = impl.CodeBudget
	}
	d, code := impl.Compile(p)
	if code != want {
		t.Errorf("%.80s: got code %d, want %d", name, code, want)
		return code
	}
	if code == impl.CodeBudget {
		if !isZeroTable(d) {
			t.Errorf("%.80s: a table beside CodeBudget", name)
		}
		return code
	}
	checkSmallest(t, name, d)
	checkAccepts(t, name, auto, d)
	return code
}

func TestCompileOfShortTrees(t *testing.T) {
	choices := []impl.Op{lit('a'), set('a', 'b'), empty(), set(), cat(), alt(), rep(0, -1), rep(1, -1), rep(0, 1), rep(2, 3)}
	for length := 1; length <= 4; length++ {
		eachList(choices, length, func(list []impl.Op) {
			if theSize(list) > 0 {
				eachAnchoring(list, func(p impl.Pattern) { checkCompile(t, p) })
			}
		})
	}
}

func TestCompileOfGrownTrees(t *testing.T) {
	d := dice{state: 24}
	for range 400 {
		ops := growTree(&d, 1+d.below(9))
		if theSize(ops) <= 50 {
			checkCompile(t, impl.Pattern{Left: d.below(2) == 0, Right: d.below(2) == 0, Tree: ops})
		}
	}
}

func TestCompileOfEveryByteApart(t *testing.T) {
	// byte b is followed by one of its own kind of tail: all 256 act apart
	var ops []impl.Op
	for bit := range 8 {
		var pairs []int
		for b := range 256 {
			if b>>bit&1 == 1 {
				pairs = append(pairs, b, b)
			}
		}
		ops = append(ops, set(joinRanges(pairs)...), lit(bit), cat())
		if bit > 0 {
			ops = append(ops, alt())
		}
	}
	p := impl.Pattern{Left: true, Right: true, Tree: ops}
	checkCompile(t, p)
	d, _ := impl.Compile(p)
	if d.NClass != 256 || len(d.Accept) != 258 {
		t.Errorf("%d classes and %d states", d.NClass, len(d.Accept))
	}
}

// joinRanges makes ascending pairs canonical.
func joinRanges(pairs []int) []int {
	var out []int
	for i := 0; i < len(pairs); i += 2 {
		if n := len(out); n > 0 && out[n-1]+1 == pairs[i] {
			out[n-1] = pairs[i+1]
		} else {
			out = append(out, pairs[i], pairs[i+1])
		}
	}
	return out
}

func TestCompileAroundTheBudget(t *testing.T) {
	seen := map[int]int{}
	for k := 240; k <= 250; k++ {
		p := read(t, fmt.Sprintf(`^(x{%d}x{9}|y[^]*a[^]{8}|z[^]*a[^]{7})$`, k))
		sets := countWaiting(impl.Positions(p), 2000)
		seen[sets] = checkCompile(t, p)
	}
	for sets := impl.MaxSets - 1; sets <= impl.MaxSets+2; sets++ {
		want := impl.CodeOK
		if sets > impl.MaxSets {
			want = impl.CodeBudget
		}
		if code, ok := seen[sets]; !ok || code != want {
			t.Errorf("%d pending sets: code %d, tried %v", sets, code, ok)
		}
	}
}

func TestCompileCountsPendingSetsAndNotStates(t *testing.T) {
	cases := []struct {
		text         string
		code, states int
	}{
		{`^[^]*a[^]{9}$`, impl.CodeOK, 1024},
		{`^(b|[^]*a[^]{9})$`, impl.CodeBudget, 0},
		// no line is in these, but the empty set is waited for all the same
		{`^[^]*a[^]{8}[]$`, impl.CodeOK, 1},
		{`^[^]*a[^]{9}[]$`, impl.CodeOK, 1},
		{`^[^]*a[^]{10}[]$`, impl.CodeBudget, 0},
		{`a?[^]{8}`, impl.CodeOK, 9},
		// every line is in these
		{`^([^]*|[^]*a[^]{8})$`, impl.CodeOK, 1},
		{`^([^]*|[^]*a[^]{11})$`, impl.CodeBudget, 0},
		{`|a[^]{11}$`, impl.CodeBudget, 0},
	}
	for _, c := range cases {
		p := read(t, c.text)
		d, code := impl.Compile(p)
		if code != c.code || len(d.Accept) != c.states {
			t.Errorf("%q: code %d and %d states", c.text, code, len(d.Accept))
		}
		if sets := countWaiting(impl.Positions(p), impl.MaxSets); (sets > impl.MaxSets) != (code == impl.CodeBudget) {
			t.Errorf("%q: code %d with %d pending sets", c.text, code, sets)
		}
	}
}

func TestCompileOfTheGreatestTrees(t *testing.T) {
	for _, c := range []struct {
		text   string
		states int
	}{
		{`^(ab){250}$`, 502}, {`(ab){250}`, 501}, {`^a{0,250}$`, 252}, {`^(a*){250}$`, 2}, {`^a{250}a{250}$`, 502},
	} {
		p := read(t, c.text)
		d, code := impl.Compile(p)
		if code != impl.CodeOK || len(d.Accept) != c.states {
			t.Errorf("%q: code %d and %d states", c.text, code, len(d.Accept))
		}
	}
}

// alike answers other ways to write the pattern's language.
func alike(p impl.Pattern) []impl.Pattern {
	anything := tree(set(0, 255), rep(0, -1))
	with := func(ops []impl.Op) impl.Pattern {
		return impl.Pattern{Left: p.Left, Right: p.Right, Tree: ops}
	}
	whole := p.Tree
	if !p.Left {
		whole = behind(cat(), anything, whole)
	}
	if !p.Right {
		whole = behind(cat(), whole, anything)
	}
	return []impl.Pattern{
		with(impl.ExpandTree(p.Tree)),
		with(behind(alt(), p.Tree, p.Tree)),
		with(behind(alt(), tree(set()), p.Tree)),
		with(behind(cat(), p.Tree, tree(empty()))),
		with(behind(cat(), tree(lit('x'), rep(0, 0)), p.Tree)),
		with(behind(alt(), p.Tree, behind(cat(), tree(set()), p.Tree))),
		with(behind(rep(1, 1), p.Tree)),
		{Left: true, Right: true, Tree: whole},
	}
}

func TestCompileGivesOneTableToOneLanguage(t *testing.T) {
	d := dice{state: 25}
	tried := 0
	for range 1500 {
		p := impl.Pattern{Left: d.below(2) == 0, Right: d.below(2) == 0, Tree: growTree(&d, 1+d.below(9))}
		if theSize(p.Tree) > 100 {
			continue
		}
		want, code := impl.Compile(p)
		if code != impl.CodeOK {
			continue
		}
		for i, other := range alike(p) {
			got, code := impl.Compile(other)
			if code == impl.CodeOK && !sameTable(got, want) {
				t.Errorf("%v, written in way %d: another table", p, i)
			}
			tried++
		}
	}
	if tried < 5000 {
		t.Errorf("only %d tried", tried)
	}
}

func TestCompileGivesOneTableToOneLanguageByHand(t *testing.T) {
	for _, texts := range [][]string{
		{`a|b`, `[ab]`, `b|a|a`, `[^]*[ab]`, `(a|b)+`},
		{`^(a|b)*$`, `^(a*b*)*$`, `^(a*b)*a*$`, `^[ab]*$`, `^([ab]{2})*[ab]?$`},
		{`^a{2,4}$`, `^aa(a(a|)|)$`, `^a?a{2}a?$`, `^(aa|aaa|aaaa)$`},
		{`[]`, `a[]`, `([]b){3}`, `^[]$`},
		{``, `.*`, `^`, `$`, `a*`, `(ab)?`, `^[^]*$`},
		{`^(ab)*a$`, `^a(ba)*$`},
		{`^[^]*a[^]{5}$`, `a[^]{5}$`, `a[^]{2}[^]{3}$`},
	} {
		want, code := impl.Compile(read(t, texts[0]))
		if code != impl.CodeOK {
			t.Fatalf("%q: code %d", texts[0], code)
		}
		for _, text := range texts[1:] {
			if got, code := impl.Compile(read(t, text)); code != impl.CodeOK || !sameTable(got, want) {
				t.Errorf("%q and %q: code %d, or other tables", texts[0], text, code)
			}
		}
	}
}

func TestCompileLeavesItsArgumentAlone(t *testing.T) {
	p := impl.Pattern{Tree: tree(set('a', 'b'), rep(2, 3), set('c', 'd'), alt())}
	before := copyTree(p.Tree)
	got, _ := impl.Compile(p)
	want := copyTable(got)
	if !sameTree(p.Tree, before) {
		t.Error("the argument was changed")
	}
	spoil(p.Tree)
	spoilList(got.Class)
	if !slices.Equal(got.Next, want.Next) {
		t.Error("two lists of the answer share memory")
	}
	if again, _ := impl.Compile(impl.Pattern{Tree: before}); !sameTable(again, want) {
		t.Error("a second call answers another table")
	}
}
