package tests

import (
	"fmt"
	"slices"
	"testing"

	"loop.example/s0027/impl"
)

func read(t *testing.T, text string) impl.Pattern {
	t.Helper()
	p, code := impl.ParsePattern([]byte(text))
	if code != impl.CodeOK {
		t.Fatalf("%q: code %d", text, code)
	}
	return p
}

// eachAnchoring calls visit with the tree under each choice of anchors.
func eachAnchoring(ops []impl.Op, visit func(impl.Pattern)) {
	for bits := range 4 {
		visit(impl.Pattern{Left: bits&1 != 0, Right: bits&2 != 0, Tree: ops})
	}
}

// wrongPatterns are not valid, one for each way.
func wrongPatterns() []impl.Pattern {
	a := lit('a')
	return []impl.Pattern{
		{}, {Left: true, Right: true},
		{Tree: tree(a, a)}, {Tree: tree(cat())}, {Tree: tree(a, alt())}, {Tree: tree(rep(0, -1))},
		{Tree: tree(set(3, 2))}, {Tree: tree(set(1, 2, 3, 4))}, {Tree: tree(set(1))}, {Tree: tree(set(0, 256))}, {Tree: tree(set(-1, 3))},
		{Tree: tree(impl.Op{Kind: 5})}, {Tree: tree(impl.Op{Kind: -1})},
		{Tree: tree(impl.Op{Kind: impl.OpEmpty, Set: []int{1, 2}})}, {Tree: tree(impl.Op{Kind: impl.OpSet, Max: 1})},
		{Tree: tree(a, rep(2, 1))}, {Tree: tree(a, rep(0, 251))}, {Tree: tree(a, rep(-1, -1))}, {Tree: tree(a, rep(0, -2))},
		{Tree: tree(a, rep(250, 250), rep(3, 3))}, {Left: true, Tree: tree(a, rep(250, 250), rep(3, 3), rep(0, 0))},
		{Tree: append(tree(a), slices.Repeat(tree(rep(1, 1)), impl.MaxOps)...)},
	}
}

// inLanguage answers whether a line of at most 60 bytes is in M of a valid
// pattern, straight from section 1.2. A set of places in the line is a number,
// one bit for each place.
func inLanguage(p impl.Pattern, line []byte) bool {
	from, to := uint64(1), uint64(1)<<len(line)
	if !p.Left {
		from = 2<<len(line) - 1
	}
	if !p.Right {
		to = 2<<len(line) - 1
	}
	return placesAfter(p.Tree, line)(from)&to != 0
}

// placesAfter answers the function that tells where a string of the tree may
// end when it begins at one of the given places.
func placesAfter(ops []impl.Op, line []byte) func(uint64) uint64 {
	var stack []func(uint64) uint64
	for _, op := range ops {
		n := len(stack)
		var made func(uint64) uint64
		switch op.Kind {
		case impl.OpEmpty:
			made = func(at uint64) uint64 { return at }
		case impl.OpSet:
			made = func(at uint64) uint64 { return at & placesBefore(op.Set, line) << 1 }
		case impl.OpCat:
			x, y := stack[n-2], stack[n-1]
			made, n = func(at uint64) uint64 { return y(x(at)) }, n-2
		case impl.OpAlt:
			x, y := stack[n-2], stack[n-1]
			made, n = func(at uint64) uint64 { return x(at) | y(at) }, n-2
		case impl.OpRep:
			x := stack[n-1]
			made, n = func(at uint64) uint64 { return placesRepeated(x, op, at) }, n-1
		}
		stack = append(stack[:n], made)
	}
	return stack[0]
}

func placesBefore(pairs []int, line []byte) uint64 {
	var out uint64
	for at, b := range line {
		for i := 0; i < len(pairs); i += 2 {
			if pairs[i] <= int(b) && int(b) <= pairs[i+1] {
				out |= 1 << at
			}
		}
	}
	return out
}

func placesRepeated(x func(uint64) uint64, op impl.Op, at uint64) uint64 {
	for range op.Min {
		at = x(at)
	}
	all := at
	for k := op.Min; k != op.Max && at != 0; k++ {
		at = x(at)
		if op.Max == -1 {
			at &^= all
		}
		all |= at
	}
	return all
}

// wholeOf puts the whole tree of section 2.1 together.
func wholeOf(p impl.Pattern) []impl.Op {
	all := tree(set(0, 255), rep(0, -1))
	whole := impl.ExpandTree(p.Tree)
	if !p.Left {
		whole = behind(cat(), all, whole)
	}
	if !p.Right {
		whole = behind(cat(), whole, all)
	}
	return whole
}

func joined(x, y []int) []int {
	out := slices.Concat(x, y)
	slices.Sort(out)
	return slices.Compact(out)
}

// wantedAuto fills in the table of section 2.1.
func wantedAuto(p impl.Pattern) impl.Auto {
	var all impl.Auto
	follow := func(last, first []int) {
		for _, i := range last {
			all.Follow[i] = joined(all.Follow[i], first)
		}
	}
	var stack []impl.Auto
	for _, op := range wholeOf(p) {
		n := len(stack)
		var made impl.Auto
		switch op.Kind {
		case impl.OpEmpty:
			made.Null = true
		case impl.OpSet:
			made.First, made.Last = []int{len(all.Sets)}, []int{len(all.Sets)}
			all.Sets, all.Follow = append(all.Sets, op.Set), append(all.Follow, nil)
		case impl.OpCat:
			x, y := stack[n-2], stack[n-1]
			follow(x.Last, y.First)
			made, n = impl.Auto{Null: x.Null && y.Null, First: x.First, Last: y.Last}, n-2
			if x.Null {
				made.First = joined(x.First, y.First)
			}
			if y.Null {
				made.Last = joined(x.Last, y.Last)
			}
		case impl.OpAlt:
			x, y := stack[n-2], stack[n-1]
			made, n = impl.Auto{Null: x.Null || y.Null, First: joined(x.First, y.First), Last: joined(x.Last, y.Last)}, n-2
		case impl.OpRep:
			made, n = stack[n-1], n-1
			follow(made.Last, made.First)
			made.Null = made.Null || op.Min == 0
		}
		stack = append(stack[:n], made)
	}
	all.Null, all.First, all.Last = stack[0].Null, stack[0].First, stack[0].Last
	return all
}

func sameAuto(a, b impl.Auto) bool {
	return a.Null == b.Null && slices.Equal(a.First, b.First) && slices.Equal(a.Last, b.Last) &&
		slices.EqualFunc(a.Sets, b.Sets, slices.Equal) && slices.EqualFunc(a.Follow, b.Follow, slices.Equal)
}

// waiting is a pending set as section 2.2 tells it.
type waiting struct {
	places []int
	end    bool
}

func firstWaiting(a impl.Auto) waiting {
	return waiting{a.First, a.Null}
}

func (w waiting) after(a impl.Auto, b byte) waiting {
	var out waiting
	for _, i := range w.places {
		if placesBefore(a.Sets[i], []byte{b}) != 0 {
			out.places = joined(out.places, a.Follow[i])
			out.end = out.end || slices.Contains(a.Last, i)
		}
	}
	return out
}

// tellingBytes answers bytes enough to go by: the edges of all sets.
func tellingBytes(a impl.Auto) []byte {
	edges := []int{0}
	for _, pairs := range a.Sets {
		for i := 0; i < len(pairs); i += 2 {
			edges = append(edges, pairs[i], (pairs[i+1]+1)%256)
		}
	}
	var out []byte
	for _, b := range joined(edges, nil) {
		out = append(out, byte(b))
	}
	return out
}

// countWaiting answers the number of pending sets, or limit + 1 if there are
// more than limit.
func countWaiting(a impl.Auto, limit int) int {
	start := firstWaiting(a)
	seen := map[string]bool{fmt.Sprint(start): true}
	work := []waiting{start}
	over := tellingBytes(a)
	for len(work) > 0 && len(seen) <= limit {
		from := work[0]
		work = work[1:]
		for _, b := range over {
			to := from.after(a, b)
			if name := fmt.Sprint(to); !seen[name] {
				seen[name] = true
				work = append(work, to)
			}
		}
	}
	return min(len(seen), limit+1)
}

func sameTable(a, b impl.DFA) bool {
	return a.NClass == b.NClass && slices.Equal(a.Class, b.Class) && slices.Equal(a.Next, b.Next) && slices.Equal(a.Accept, b.Accept)
}

func isZeroTable(d impl.DFA) bool {
	return sameTable(d, impl.DFA{})
}

func copyTable(d impl.DFA) impl.DFA {
	return impl.DFA{Class: slices.Clone(d.Class), NClass: d.NClass, Next: slices.Clone(d.Next), Accept: slices.Clone(d.Accept)}
}

func nextState(d impl.DFA, state int, b byte) int {
	return d.Next[state*d.NClass+d.Class[b]]
}

// isValidTable goes through section 2.4 word by word.
func isValidTable(d impl.DFA) bool {
	s := len(d.Accept)
	if s < 1 || s > impl.MaxSets || len(d.Class) != 256 || d.NClass < 1 || d.NClass > 256 || len(d.Next) != s*d.NClass {
		return false
	}
	for b, c := range d.Class {
		if c < 0 || b == 0 && c != 0 || b > 0 && c > slices.Max(d.Class[:b])+1 {
			return false
		}
	}
	return slices.Max(d.Class) == d.NClass-1 && slices.Min(d.Next) >= 0 && slices.Max(d.Next) < s
}

// checkSmallest goes through the four conditions of a smallest table.
func checkSmallest(t *testing.T, name string, d impl.DFA) {
	t.Helper()
	if !isValidTable(d) {
		t.Fatalf("%.80s: the table is not valid: %v", name, d)
	}
	met := 0
	for state := range d.Accept {
		if state > met {
			t.Fatalf("%.80s: state %d is not reached, or not in its turn", name, state)
		}
		for class := range d.NClass {
			next := d.Next[state*d.NClass+class]
			if next > met+1 {
				t.Fatalf("%.80s: state %d is met ahead of %d", name, next, met+1)
			}
			met = max(met, next)
		}
	}
	if kinds := countKinds(d); kinds != len(d.Accept) {
		t.Errorf("%.80s: %d states, of which %d are told apart", name, len(d.Accept), kinds)
	}
	columns := map[string]bool{}
	for class := range d.NClass {
		var column []int
		for state := range d.Accept {
			column = append(column, d.Next[state*d.NClass+class])
		}
		columns[fmt.Sprint(column)] = true
	}
	if len(columns) != d.NClass {
		t.Errorf("%.80s: %d classes, of which %d differ", name, d.NClass, len(columns))
	}
}

// countKinds answers how many kinds of states there are: rounds of telling
// apart by one byte more, until none is won.
func countKinds(d impl.DFA) int {
	kind := make([]int, len(d.Accept))
	count := 0
	for {
		known := map[string]int{}
		next := make([]int, len(kind))
		for state := range kind {
			key := []int{kind[state]}
			if count == 0 && d.Accept[state] {
				key[0] = 1
			}
			for _, to := range d.Next[state*d.NClass : (state+1)*d.NClass] {
				key = append(key, kind[to])
			}
			name := fmt.Sprint(key)
			if _, ok := known[name]; !ok {
				known[name] = len(known)
			}
			next[state] = known[name]
		}
		if len(known) == count {
			return count
		}
		kind, count = next, len(known)
	}
}

// sameLines answers whether two valid tables accept the same lines, by every
// pair of states that one line leads to.
func sameLines(a, b impl.DFA) bool {
	seen := map[[2]int]bool{{0, 0}: true}
	work := [][2]int{{0, 0}}
	for len(work) > 0 {
		at := work[0]
		work = work[1:]
		if a.Accept[at[0]] != b.Accept[at[1]] {
			return false
		}
		for v := range 256 {
			to := [2]int{nextState(a, at[0], byte(v)), nextState(b, at[1], byte(v))}
			if !seen[to] {
				seen[to] = true
				work = append(work, to)
			}
		}
	}
	return true
}

// checkAccepts holds a table against the pending sets of a pattern: wherever
// one line leads in both, they must agree.
func checkAccepts(t *testing.T, name string, a impl.Auto, d impl.DFA) {
	t.Helper()
	type pair struct {
		at    waiting
		state int
	}
	over := tellingBytes(a)
	for b := 1; b < 256; b++ {
		if !slices.Contains(over, byte(b)) && d.Class[b] != d.Class[b-1] {
			t.Errorf("%.80s: the bytes %d and %d are not in one class", name, b-1, b)
			return
		}
	}
	start := pair{firstWaiting(a), 0}
	seen := map[string]bool{fmt.Sprint(start): true}
	work := []pair{start}
	for len(work) > 0 {
		from := work[0]
		work = work[1:]
		if from.at.end != d.Accept[from.state] {
			t.Errorf("%.80s: state %d accepts, or not, against the pending set %v", name, from.state, from.at)
			return
		}
		for _, b := range over {
			to := pair{from.at.after(a, b), nextState(d, from.state, b)}
			if key := fmt.Sprint(to); !seen[key] {
				seen[key] = true
				work = append(work, to)
			}
		}
	}
}
