package tests

import (
	"fmt"
	"slices"
	"testing"

	"loop.example/s0027/impl"
)

// rollClasses answers the classes of a valid table with count classes.
func rollClasses(d *dice, count int) []int {
	out := make([]int, 256)
	met := 1
	for b := 1; b < 256; b++ {
		if met < count && (256-b <= count-met || d.below(256/count+1) == 0) {
			out[b] = met
			met++
		} else {
			out[b] = d.below(met)
		}
	}
	return out
}

func rollTable(d *dice, states, classes int) impl.DFA {
	out := impl.DFA{Class: rollClasses(d, classes), NClass: classes, Accept: make([]bool, states)}
	for i := range out.Accept {
		out.Accept[i] = d.below(3) == 0
	}
	for range states * classes {
		out.Next = append(out.Next, d.below(states))
	}
	return out
}

// wrongTables are not valid, each in one way that section 2.4 names.
func wrongTables() map[string]impl.DFA {
	good := impl.DFA{Class: classesAt(50, 100), NClass: 3, Next: []int{0, 1, 1, 1, 0, 1}, Accept: []bool{false, true}}
	out := map[string]impl.DFA{"zero": {}}
	change := func(name string, by func(d *impl.DFA)) {
		d := copyTable(good)
		by(&d)
		out[name] = d
	}
	change("no state", func(d *impl.DFA) { d.Accept, d.Next = nil, nil })
	change("too many states", func(d *impl.DFA) {
		d.Accept, d.Next = make([]bool, impl.MaxSets+1), make([]int, 3*(impl.MaxSets+1))
	})
	change("a class too few", func(d *impl.DFA) { d.Class = d.Class[:255] })
	change("a class too many", func(d *impl.DFA) { d.Class = append(d.Class, 2) })
	change("no class at all", func(d *impl.DFA) { d.Class = nil })
	change("first class not 0", func(d *impl.DFA) { d.Class[0] = 1 })
	change("first class below 0", func(d *impl.DFA) { d.Class[0] = -1 })
	change("a class left out", func(d *impl.DFA) { d.Class[20] = 2 })
	change("a class below 0", func(d *impl.DFA) { d.Class[200] = -1 })
	change("a class beyond the last", func(d *impl.DFA) { d.Class[200] = 3 })
	change("NClass 0", func(d *impl.DFA) { d.NClass, d.Next = 0, nil })
	change("NClass below 0", func(d *impl.DFA) { d.NClass = -3 })
	change("NClass too small", func(d *impl.DFA) { d.NClass, d.Next = 2, []int{0, 1, 1, 1} })
	change("NClass too great", func(d *impl.DFA) { d.NClass, d.Next = 4, make([]int, 8) })
	change("NClass 257", func(d *impl.DFA) { d.NClass, d.Next = 257, make([]int, 2*257) })
	change("an element of Next too few", func(d *impl.DFA) { d.Next = d.Next[:5] })
	change("an element of Next too many", func(d *impl.DFA) { d.Next = append(d.Next, 0) })
	change("no Next", func(d *impl.DFA) { d.Next = nil })
	change("a state beyond the last", func(d *impl.DFA) { d.Next[5] = 2 })
	change("a state below 0", func(d *impl.DFA) { d.Next[0] = -1 })
	change("a state far beyond", func(d *impl.DFA) { d.Next[3] = 1 << 62 })
	return out
}

func TestWrongTables(t *testing.T) {
	for name, d := range wrongTables() {
		if got := impl.Minimize(d); !isZeroTable(got) {
			t.Errorf("%s: minimized to %v", name, got)
		}
		for _, line := range []string{"", "a", "abc\x00\xff"} {
			if ok, trace := impl.RunDFA(d, []byte(line)); ok || len(trace) != 0 {
				t.Errorf("%s: runs %q: %v %v", name, line, ok, trace)
			}
		}
	}
}

// checkMinimized holds the answer of Minimize against its argument.
func checkMinimized(t *testing.T, name string, d impl.DFA) impl.DFA {
	t.Helper()
	got := impl.Minimize(d)
	checkSmallest(t, name, got)
	if !sameLines(d, got) {
		t.Errorf("%.80s: the smallest table accepts other lines", name)
	}
	if again := impl.Minimize(got); !sameTable(again, got) {
		t.Errorf("%.80s: minimizing again changes it", name)
	}
	return got
}

func TestMinimizeOfRolledTables(t *testing.T) {
	d := dice{state: 26}
	for round := range 600 {
		table := rollTable(&d, 1+d.below(12), 1+d.below(6))
		checkMinimized(t, fmt.Sprint("round ", round, " ", table), table)
	}
	for _, size := range [][2]int{{1, 1}, {1, 256}, {2, 256}, {100, 1}, {300, 3}, {40, 256}} {
		checkMinimized(t, fmt.Sprint(size), rollTable(&d, size[0], size[1]))
	}
}

func TestMinimizeOfEveryTableOfThreeStates(t *testing.T) {
	eachList([]int{0, 1, 2}, 6, func(next []int) {
		for bits := range 8 {
			d := impl.DFA{Class: classesAt(128), NClass: 2, Next: slices.Clone(next), Accept: []bool{bits&1 != 0, bits&2 != 0, bits&4 != 0}}
			checkMinimized(t, fmt.Sprint(d.Next, d.Accept), d)
		}
	})
}

// inflate answers a table for the same lines with several states for each of
// d's (states must be more), some of which are never reached, and with classes
// that are cut in two.
func inflate(dice *dice, d impl.DFA, states int) impl.DFA {
	old := len(d.Accept)
	stands := make([]int, states) // for which of d's states each stands
	for i := range stands {
		switch {
		case i == 0:
			stands[i] = 0
		case i <= old:
			stands[i] = i - 1
		default:
			stands[i] = dice.below(old)
		}
	}
	out := impl.DFA{Class: make([]int, 256)}
	known := map[[2]int]int{}
	var classOf []int
	for b := range 256 {
		key := [2]int{d.Class[b], dice.below(2)}
		if _, ok := known[key]; !ok {
			known[key] = len(known)
			classOf = append(classOf, d.Class[b])
		}
		out.Class[b] = known[key]
	}
	out.NClass = len(known)
	for i := range stands {
		out.Accept = append(out.Accept, d.Accept[stands[i]])
		for _, class := range classOf {
			want := d.Next[stands[i]*d.NClass+class]
			to := dice.below(states)
			for stands[to] != want {
				to = (to + 1) % states
			}
			out.Next = append(out.Next, to)
		}
	}
	return out
}

func TestMinimizeTakesInflatedTablesBack(t *testing.T) {
	d := dice{state: 27}
	for round := range 200 {
		want := impl.Minimize(rollTable(&d, 1+d.below(8), 1+d.below(5)))
		table := inflate(&d, want, len(want.Accept)+1+d.below(40))
		if got := impl.Minimize(table); !sameTable(got, want) {
			t.Errorf("round %d: got %v, want %v", round, got, want)
		}
	}
	for _, text := range []string{`error \d+$`, `^(a|b)*abb$`, `[^]*a[^]{6}$`} {
		want, _ := impl.Compile(read(t, text))
		for _, states := range []int{len(want.Accept) + 1, 500, impl.MaxSets} {
			if got := impl.Minimize(inflate(&d, want, states)); !sameTable(got, want) {
				t.Errorf("%q, inflated to %d states, is not taken back", text, states)
			}
		}
	}
}

// ring answers a table that goes round all states, of which the last accepts;
// the states stand in the order of their numbers times step.
func ring(states, step int) impl.DFA {
	d := impl.DFA{Class: classesAt(), NClass: 1, Next: make([]int, states), Accept: make([]bool, states)}
	for s := range states {
		d.Next[s*step%states] = (s + 1) * step % states
	}
	d.Accept[(states-1)*step%states] = true
	return d
}

func TestMinimizeOfLongRings(t *testing.T) {
	for _, states := range []int{1, 2, 3, 1023, impl.MaxSets} {
		want := ring(states, 1)
		for _, step := range []int{1, states - 1, 5} {
			if got := impl.Minimize(ring(states, max(1, step))); !sameTable(got, want) {
				t.Errorf("a ring of %d states by steps of %d: another table", states, step)
			}
		}
	}
	all := ring(impl.MaxSets, 1)
	for s := range all.Accept {
		all.Accept[s] = s%4 == 3
	}
	if got := impl.Minimize(all); !sameTable(got, ring(4, 1)) {
		t.Errorf("a ring that accepts each fourth time: %d states", len(got.Accept))
	}
	for s := range all.Accept {
		all.Accept[s] = true
	}
	if got := impl.Minimize(all); len(got.Accept) != 1 || !got.Accept[0] {
		t.Errorf("a ring that always accepts: %v", got)
	}
}

func TestMinimizeOfTheGreatestTables(t *testing.T) {
	d := dice{state: 28}
	rolled := rollTable(&d, impl.MaxSets, 256)
	got := impl.Minimize(rolled)
	if !sameLines(rolled, got) || len(got.Accept) != impl.MaxSets || got.NClass != 256 {
		t.Errorf("rolled: %d states and %d classes", len(got.Accept), got.NClass)
	}
	// one class goes down a long chain, the others stay: a state is only told
	// from the next by the whole way down
	chain := impl.DFA{NClass: 256, Accept: make([]bool, impl.MaxSets)}
	for b := range 256 {
		chain.Class = append(chain.Class, b)
	}
	for s := range impl.MaxSets {
		for c := range 256 {
			next := s
			if c == 255 {
				next = min(s+1, impl.MaxSets-1)
			}
			chain.Next = append(chain.Next, next)
		}
	}
	chain.Accept[impl.MaxSets-1] = true
	got = impl.Minimize(chain)
	if got.NClass != 2 || len(got.Accept) != impl.MaxSets || got.Class[254] != 0 || got.Class[255] != 1 || !sameLines(chain, got) {
		t.Errorf("chain: %d states and %d classes", len(got.Accept), got.NClass)
	}
	chain.Accept[impl.MaxSets-1] = false
	if got = impl.Minimize(chain); got.NClass != 1 || len(got.Accept) != 1 {
		t.Errorf("chain that never accepts: %d states and %d classes", len(got.Accept), got.NClass)
	}
}

func TestMinimizeKeepsSmallestTables(t *testing.T) {
	for _, text := range []string{``, `[]`, `^a$`, `error \d+$`, `^[^]*a[^]{9}$`, `\w+@\w+`} {
		want, code := impl.Compile(read(t, text))
		if got := impl.Minimize(want); code != impl.CodeOK || !sameTable(got, want) {
			t.Errorf("%q: the table of Compile is changed", text)
		}
	}
}

func TestRunGoesOneStepForEachByte(t *testing.T) {
	d := dice{state: 29}
	for round := range 300 {
		table := rollTable(&d, 1+d.below(30), 1+d.below(20))
		line := make([]byte, d.below(50))
		for i := range line {
			line[i] = byte(d.below(256))
		}
		ok, trace := impl.RunDFA(table, line)
		if len(trace) != len(line)+1 || trace[0] != 0 {
			t.Fatalf("round %d: the states %v for %d bytes", round, trace, len(line))
		}
		for i, b := range line {
			if trace[i+1] != nextState(table, trace[i], b) {
				t.Fatalf("round %d: step %d leads to %d", round, i, trace[i+1])
			}
		}
		if ok != table.Accept[trace[len(line)]] {
			t.Errorf("round %d: answers %v in state %d", round, ok, trace[len(line)])
		}
	}
}

func TestRunAtTheEdges(t *testing.T) {
	d := dice{state: 30}
	for _, size := range [][2]int{{1, 1}, {1, 256}, {impl.MaxSets, 1}, {impl.MaxSets, 256}} {
		table := rollTable(&d, size[0], size[1])
		ok, trace := impl.RunDFA(table, nil)
		if ok != table.Accept[0] || !slices.Equal(trace, []int{0}) {
			t.Errorf("%v: the empty line answers %v %v", size, ok, trace)
		}
		long := make([]byte, impl.MaxBytes+1)
		state := 0
		for i := range long {
			long[i] = byte(d.below(256))
			state = nextState(table, state, long[i])
		}
		ok, trace = impl.RunDFA(table, long)
		if ok != table.Accept[state] || len(trace) != len(long)+1 || trace[len(long)] != state {
			t.Errorf("%v: a long line answers %v and %d states", size, ok, len(trace))
		}
	}
}

func TestRunAgreesWithMatch(t *testing.T) {
	d := dice{state: 31}
	for range 300 {
		p := impl.Pattern{Left: d.below(2) == 0, Right: d.below(2) == 0, Tree: growTree(&d, 1+d.below(8))}
		table, code := impl.Compile(p)
		if code != impl.CodeOK {
			continue
		}
		for _, line := range linesOver("ab\n", 4) {
			if ok, _ := impl.RunDFA(table, line); ok != inLanguage(p, line) {
				t.Errorf("%v: the table is wrong of %q", p, line)
			}
		}
	}
}

func TestTablesAnswerNewMemory(t *testing.T) {
	for _, table := range []impl.DFA{ring(3, 1), {Class: classesAt(9), NClass: 2, Next: []int{1, 1, 0, 1}, Accept: []bool{false, true}}} {
		before := copyTable(table)
		got := impl.Minimize(table)
		want := copyTable(got)
		_, trace := impl.RunDFA(table, []byte("abc"))
		if !sameTable(table, before) {
			t.Fatal("the argument was changed")
		}
		spoilList(trace)
		spoilList(got.Class)
		if !slices.Equal(got.Next, want.Next) {
			t.Error("two lists of the answer share memory")
		}
		spoilList(got.Next)
		full := got.Accept[:cap(got.Accept)]
		for i := range full {
			full[i] = !full[i]
		}
		if !sameTable(table, before) {
			t.Error("the answer shares memory with the argument")
		}
	}
}
