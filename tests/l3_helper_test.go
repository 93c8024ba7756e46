package tests

import (
	"slices"

	"loop.example/s0027/impl"
)

// number is the trigram number of three bytes.
func number(three string) int {
	return int(three[0])*65536 + int(three[1])*256 + int(three[2])
}

func sameLists(a, b [][]int) bool {
	return slices.EqualFunc(a, b, slices.Equal)
}

func copyLists(lists [][]int) [][]int {
	var out [][]int
	for _, list := range lists {
		out = append(out, slices.Clone(list))
	}
	return out
}

// symbols writes a skeleton from a text in which a tilde is the Gap.
func symbols(text string) []int {
	var out []int
	for _, b := range []byte(text) {
		if b == '~' {
			out = append(out, impl.Gap)
		} else {
			out = append(out, int(b))
		}
	}
	return out
}

func skeletons(texts ...string) [][]int {
	var out [][]int
	for _, text := range texts {
		out = append(out, symbols(text))
	}
	return out
}

// different sorts lists and keeps one of those that are equal.
func different(lists [][]int) [][]int {
	out := slices.Clone(lists)
	slices.SortFunc(out, slices.Compare)
	return slices.CompactFunc(out, slices.Equal)
}

// joinedSymbols joins skeletons, as section 3.2 tells it.
func joinedSymbols(parts ...[]int) []int {
	var out []int
	for _, part := range parts {
		for i, s := range part {
			if i == 0 && s == impl.Gap && len(out) > 0 && out[len(out)-1] == impl.Gap {
				continue
			}
			out = append(out, s)
		}
	}
	return out
}

// wantedSkeletons goes through the table of section 3.2.
func wantedSkeletons(ops []impl.Op) [][]int {
	gap := []int{impl.Gap}
	var stack [][][]int
	for _, op := range impl.ExpandTree(ops) {
		n := len(stack)
		var made [][]int
		switch {
		case op.Kind == impl.OpEmpty:
			made = [][]int{{}}
		case op.Kind == impl.OpSet:
			made = wantedLeaf(op.Set)
		case op.Kind == impl.OpCat:
			for _, s := range stack[n-2] {
				for _, t := range stack[n-1] {
					made = append(made, joinedSymbols(s, t))
				}
			}
			n -= 2
		case op.Kind == impl.OpAlt:
			made, n = slices.Concat(stack[n-2], stack[n-1]), n-2
		case op.Min == 0:
			made, n = [][]int{gap}, n-1
		default:
			made = slices.Clone(stack[n-1])
			for _, s := range stack[n-1] {
				for _, t := range stack[n-1] {
					made = append(made, joinedSymbols(s, gap, t))
				}
			}
			n--
		}
		made = different(made)
		tooLong := func(s []int) bool { return len(s) > 60 }
		if len(made) > 50 || slices.ContainsFunc(made, tooLong) {
			made = [][]int{gap}
		}
		stack = append(stack[:n], made)
	}
	return stack[0]
}

func wantedLeaf(pairs []int) [][]int {
	var out [][]int
	for i := 0; i < len(pairs); i += 2 {
		for b := pairs[i]; b <= pairs[i+1]; b++ {
			out = append(out, []int{b})
		}
	}
	if len(out) > 8 {
		return [][]int{{impl.Gap}}
	}
	return out
}

// covers answers whether the Gaps of a skeleton can be filled so that the word
// comes out. What stands at place i tells whether the symbols so far can give
// the first i bytes.
func covers(skeleton []int, word []byte) bool {
	can := make([]bool, len(word)+1)
	can[0] = true
	for _, s := range skeleton {
		next := make([]bool, len(word)+1)
		for i := range next {
			if s == impl.Gap {
				next[i] = can[i] || i > 0 && next[i-1]
			} else {
				next[i] = i > 0 && can[i-1] && int(word[i-1]) == s
			}
		}
		can = next
	}
	return can[len(word)]
}

// wordRoller rolls strings of a tree; fuel keeps repetitions from growing
// without end.
type wordRoller struct {
	d    *dice
	fuel int
}

// roll answers a string of the tree, and false if none was found.
func (r *wordRoller) roll(ops []impl.Op) ([]byte, bool) {
	r.fuel = 200
	var stack []func() ([]byte, bool)
	for _, op := range ops {
		n := len(stack)
		var made func() ([]byte, bool)
		switch op.Kind {
		case impl.OpEmpty:
			made = func() ([]byte, bool) { return nil, true }
		case impl.OpSet:
			made = func() ([]byte, bool) { return r.rollByte(op.Set) }
		case impl.OpCat:
			x, y := stack[n-2], stack[n-1]
			made, n = func() ([]byte, bool) {
				u, okU := x()
				v, okV := y()
				return slices.Concat(u, v), okU && okV
			}, n-2
		case impl.OpAlt:
			x, y := stack[n-2], stack[n-1]
			made, n = func() ([]byte, bool) {
				if r.d.below(2) == 0 {
					x, y = y, x
				}
				if u, ok := x(); ok {
					return u, true
				}
				return y()
			}, n-2
		case impl.OpRep:
			x := stack[n-1]
			made, n = func() ([]byte, bool) { return r.rollRep(x, op) }, n-1
		}
		stack = append(stack[:n], made)
	}
	return stack[0]()
}

func (r *wordRoller) rollByte(pairs []int) ([]byte, bool) {
	if len(pairs) == 0 {
		return nil, false
	}
	at := r.d.below(len(pairs)/2) * 2
	return []byte{byte(pairs[at] + r.d.below(pairs[at+1]-pairs[at]+1))}, true
}

func (r *wordRoller) rollRep(x func() ([]byte, bool), op impl.Op) ([]byte, bool) {
	var out []byte
	for k := 0; k < op.Min || k != op.Max && r.fuel > 0 && r.d.below(2) == 0; k++ {
		r.fuel--
		u, ok := x()
		if !ok {
			return out, k >= op.Min
		}
		out = append(out, u...)
	}
	return out, true
}

// growWideTree makes a tree whose skeletons often come near the limits.
func growWideTree(d *dice, leaves int) []impl.Op {
	leafs := []impl.Op{lit('a'), lit('b'), empty(), set(), set('a', 'b'), set('a', 'd'), set('a', 'g'), set('a', 'h'), set('a', 'i'), set(0, 255), set(0, 2, 253, 255)}
	out := tree(leafs[d.below(len(leafs))])
	if d.below(2) == 0 {
		out = tree(lit('a'+d.below(3)), lit('a'+d.below(3)), cat(), lit('a'+d.below(3)), cat())
	}
	if leaves > 1 {
		left := 1 + d.below(leaves-1)
		op := []impl.Op{cat(), cat(), alt()}[d.below(3)]
		out = behind(op, growWideTree(d, left), growWideTree(d, leaves-left))
	}
	switch d.below(12) {
	case 0:
		out = append(out, rep(0, -1))
	case 1, 2:
		out = append(out, rep(1, -1))
	case 3:
		out = append(out, rep(0, 1+d.below(3)))
	case 4:
		low := 10 + d.below(25)
		out = append(out, rep(low, low))
	}
	return out
}

// trueOf answers whether a query is true of a list, in the words of section
// 3.3.
func trueOf(q impl.Query, tris []int) bool {
	return slices.ContainsFunc(q.Clauses, func(clause []int) bool {
		return !slices.ContainsFunc(clause, func(n int) bool { return !slices.Contains(tris, n) })
	})
}

// wantedNormal makes clauses normal, in the words of section 3.3.
func wantedNormal(clauses [][]int) [][]int {
	var sorted [][]int
	for _, clause := range clauses {
		sorted = append(sorted, joined(clause, nil))
	}
	sorted = different(sorted)
	return slices.DeleteFunc(slices.Clone(sorted), func(clause []int) bool {
		return slices.ContainsFunc(sorted, func(other []int) bool {
			return !slices.Equal(clause, other) && trueOf(impl.Query{Clauses: [][]int{other}}, clause)
		})
	})
}

// wantedQuery makes the query of a tree, in the words of section 3.3.
func wantedQuery(ops []impl.Op) [][]int {
	var clauses [][]int
	for _, s := range wantedSkeletons(ops) {
		var clause []int
		for i := 2; i < len(s); i++ {
			if !slices.Contains(s[i-2:i+1], impl.Gap) {
				clause = append(clause, s[i-2]*65536+s[i-1]*256+s[i])
			}
		}
		clauses = append(clauses, clause)
	}
	return wantedNormal(clauses)
}
