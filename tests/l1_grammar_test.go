package tests

import "strings"

// grammar decides by brute force whether a text is in the grammar of section
// 1.4: each rule answers all places at which a part that begins at a given place
// may end. It chooses nothing ahead of time, as a reader must.
type grammar struct {
	text string
	alts map[int][]int
}

const grammarSpecials = `\.[]()|*+?{}^$`

func inGrammar(text string) bool {
	starts := []int{0}
	if strings.HasPrefix(text, "^") {
		starts = append(starts, 1)
	}
	g := grammar{text: text, alts: map[int][]int{}}
	for _, start := range starts {
		for _, end := range g.alt(start) {
			if text[end:] == "" || text[end:] == "$" {
				return true
			}
		}
	}
	return false
}

func (g *grammar) is(at int, one string) bool {
	return at < len(g.text) && strings.IndexByte(one, g.text[at]) >= 0
}

func (g *grammar) alt(at int) []int {
	if known, ok := g.alts[at]; ok {
		return known
	}
	found := g.cat(at)
	for i := 0; i < len(found); i++ {
		if g.is(found[i], "|") {
			found = addNew(found, g.cat(found[i]+1)...)
		}
	}
	g.alts[at] = found
	return found
}

func (g *grammar) cat(at int) []int {
	found := []int{at}
	for i := 0; i < len(found); i++ {
		found = addNew(found, g.item(found[i])...)
	}
	return found
}

func (g *grammar) item(at int) []int {
	found := g.atom(at)
	for _, end := range g.atom(at) {
		found = addNew(found, g.rep(end)...)
	}
	return found
}

func (g *grammar) rep(at int) []int {
	if g.is(at, "*+?") {
		return []int{at + 1}
	}
	if !g.is(at, "{") {
		return nil
	}
	var found []int
	for _, first := range g.num(at + 1) {
		if g.is(first, "}") {
			found = addNew(found, first+1)
		}
		if g.is(first, ",") && g.is(first+1, "}") {
			found = addNew(found, first+2)
		}
		if !g.is(first, ",") {
			continue
		}
		for _, second := range g.num(first + 1) {
			ordered := value(g.text[at+1:first]) <= value(g.text[first+1:second])
			if g.is(second, "}") && ordered {
				found = addNew(found, second+1)
			}
		}
	}
	return found
}

func (g *grammar) num(at int) []int {
	var found []int
	for end := at; end < at+4 && g.is(end, "0123456789"); end++ {
		found = append(found, end+1)
	}
	return found
}

func value(digits string) int {
	n := 0
	for _, d := range digits {
		n = n*10 + int(d-'0')
	}
	return n
}

func (g *grammar) atom(at int) []int {
	var found []int
	if g.is(at, "(") {
		for _, end := range g.alt(at + 1) {
			if g.is(end, ")") {
				found = addNew(found, end+1)
			}
		}
	}
	if g.is(at, ".") {
		found = addNew(found, at+1)
	}
	if at < len(g.text) && !g.is(at, grammarSpecials) {
		found = addNew(found, at+1)
	}
	found = addNew(found, g.class(at)...)
	for _, escape := range g.byteEscape(at) {
		found = addNew(found, escape.end)
	}
	return addNew(found, g.setEscape(at)...)
}

func (g *grammar) class(at int) []int {
	if !g.is(at, "[") {
		return nil
	}
	places := []int{at + 1}
	if g.is(at+1, "^") {
		places = append(places, at+2)
	}
	var found []int
	for i := 0; i < len(places); i++ {
		if g.is(places[i], "]") {
			found = addNew(found, places[i]+1)
		}
		places = addNew(places, g.member(places[i])...)
	}
	return found
}

func (g *grammar) member(at int) []int {
	found := g.setEscape(at)
	for _, low := range g.char(at) {
		found = addNew(found, low.end)
		if !g.is(low.end, "-") {
			continue
		}
		for _, high := range g.char(low.end + 1) {
			if low.value <= high.value {
				found = addNew(found, high.end)
			}
		}
	}
	return found
}

type charEnd struct {
	end   int
	value byte
}

func (g *grammar) char(at int) []charEnd {
	found := g.byteEscape(at)
	if at < len(g.text) && !g.is(at, `\][^-`) {
		found = append(found, charEnd{at + 1, g.text[at]})
	}
	return found
}

func (g *grammar) setEscape(at int) []int {
	if g.is(at, `\`) && g.is(at+1, "dws") {
		return []int{at + 2}
	}
	return nil
}

func (g *grammar) byteEscape(at int) []charEnd {
	if !g.is(at, `\`) {
		return nil
	}
	if g.is(at+1, grammarSpecials+"-") {
		return []charEnd{{at + 2, g.text[at+1]}}
	}
	if g.is(at+1, "ntr") {
		return []charEnd{{at + 2, "\n\t\r"[strings.IndexByte("ntr", g.text[at+1])]}}
	}
	const hex = "0123456789abcdefABCDEF"
	if g.is(at+1, "x") && g.is(at+2, hex) && g.is(at+3, hex) {
		high := strings.IndexByte("0123456789abcdef", lower(g.text[at+2]))
		low := strings.IndexByte("0123456789abcdef", lower(g.text[at+3]))
		return []charEnd{{at + 4, byte(high*16 + low)}}
	}
	return nil
}

func lower(b byte) byte {
	return strings.ToLower(string(rune(b)))[0]
}

func addNew(list []int, more ...int) []int {
	for _, m := range more {
		known := false
		for _, l := range list {
			known = known || l == m
		}
		if !known {
			list = append(list, m)
		}
	}
	return list
}
