package tests

import (
	"fmt"
	"slices"
	"strings"
	"testing"

	"loop.example/s0027/impl"
)

func TestParseBuildsTrees(t *testing.T) {
	a, b, c := lit('a'), lit('b'), lit('c')
	dot := set(0, 9, 11, 255)
	cases := []struct {
		text        string
		left, right bool
		tree        []impl.Op
	}{
		{"", false, false, tree(empty())},
		{"^", true, false, tree(empty())},
		{"$", false, true, tree(empty())},
		{"^$", true, true, tree(empty())},
		{"()", false, false, tree(empty())},
		{"(())", false, false, tree(empty())},
		{"^ab$", true, true, tree(a, b, cat())},
		{"a|", false, false, tree(a, empty(), alt())},
		{"|a", false, false, tree(empty(), a, alt())},
		{"a|$", false, true, tree(a, empty(), alt())},
		{"^|a", true, false, tree(empty(), a, alt())},
		{"a||b", false, false, tree(a, empty(), alt(), b, alt())},
		{"(|)", false, false, tree(empty(), empty(), alt())},
		{"()a", false, false, tree(empty(), a, cat())},
		{"abc", false, false, tree(a, b, cat(), c, cat())},
		{"(ab)c", false, false, tree(a, b, cat(), c, cat())},
		{"a(bc)", false, false, tree(a, b, c, cat(), cat())},
		{"a|b|c", false, false, tree(a, b, alt(), c, alt())},
		{"(a|b)|c", false, false, tree(a, b, alt(), c, alt())},
		{"a|(b|c)", false, false, tree(a, b, c, alt(), alt())},
		{"a|bc", false, false, tree(a, b, c, cat(), alt())},
		{"(a|b)c", false, false, tree(a, b, alt(), c, cat())},
		{"ab*", false, false, tree(a, b, rep(0, -1), cat())},
		{"(ab)*", false, false, tree(a, b, cat(), rep(0, -1))},
		{"a+", false, false, tree(a, rep(1, -1))},
		{"a?", false, false, tree(a, rep(0, 1))},
		{"((a*)+)?", false, false, tree(a, rep(0, -1), rep(1, -1), rep(0, 1))},
		{"()*", false, false, tree(empty(), rep(0, -1))},
		{"a{0}", false, false, tree(a, rep(0, 0))},
		{"a{0,0}", false, false, tree(a, rep(0, 0))},
		{"a{0,1}", false, false, tree(a, rep(0, 1))},
		{"a{0,}", false, false, tree(a, rep(0, -1))},
		{"a{1,}", false, false, tree(a, rep(1, -1))},
		{"a{1}", false, false, tree(a, rep(1, 1))},
		{"a{0250}", false, false, tree(a, rep(250, 250))},
		{"a{250,}", false, false, tree(a, rep(250, -1))},
		{"a{0,250}", false, false, tree(a, rep(0, 250))},
		{"a{0002,0003}", false, false, tree(a, rep(2, 3))},
		{".", false, false, tree(dot)},
		{"-,1", false, false, tree(lit('-'), lit(','), cat(), lit('1'), cat())},
		{"\n\x00\xff", false, false, tree(lit(10), lit(0), cat(), lit(255), cat())},
		{`\^\$`, false, false, tree(lit('^'), lit('$'), cat())},
		{`^\$$`, true, true, tree(lit('$'))},
		{`\\$`, false, true, tree(lit('\\'))},
		{"[$]", false, false, tree(lit('$'))},
	}
	for _, c := range cases {
		want := impl.Pattern{Left: c.left, Right: c.right, Tree: c.tree}
		p, code := impl.ParsePattern([]byte(c.text))
		if code != impl.CodeOK || !samePattern(p, want) {
			t.Errorf("%q: code %d, %v", c.text, code, p)
		}
	}
}

func TestParseReadsSets(t *testing.T) {
	cases := []struct {
		text string
		want impl.Op
	}{
		{"[]", set()},
		{"[^]", set(0, 255)},
		{"[a]", lit('a')},
		{"[^a]", set(0, 'a'-1, 'a'+1, 255)},
		{"[^\\x00]", set(1, 255)},
		{"[^\\xff]", set(0, 254)},
		{"[^\\x00-\\xff]", set()},
		{"[aab]", set('a', 'b')},
		{"[ca]", set('a', 'a', 'c', 'c')},
		{"[a-cb-e]", set('a', 'e')},
		{"[a-bc-d]", set('a', 'd')},
		{"[a-a]", lit('a')},
		{"[?-@]", set('?', '@')},
		{"[>-@]", set('>', '@')},
		{"[.()*+?{}|$]", set('$', '$', '(', '+', '.', '.', '?', '?', '{', '}')},
		{"[\n\x80-\xff]", set(10, 10, 128, 255)},
		{`[\^\-\]\[\\]`, set('-', '-', '[', '^')},
		{`[\--\x30]`, set('-', '0')},
		{`[\d\s]`, set(9, 10, 13, 13, 32, 32, '0', '9')},
		{`[^\w]`, set(0, '/', ':', '@', '[', '^', '`', '`', '{', 255)},
		{`\d`, set('0', '9')},
		{`\w`, set('0', '9', 'A', 'Z', '_', '_', 'a', 'z')},
		{`\s`, set(9, 10, 13, 13, 32, 32)},
		{`\n`, lit(10)},
		{`\t`, lit(9)},
		{`\r`, lit(13)},
		{`\-`, lit('-')},
		{`\x00`, lit(0)},
		{`\xfF`, lit(255)},
		{`\xAb`, lit(171)},
		{`\x9a`, lit(154)},
	}
	for _, special := range `\.[]()|*+?{}^$` {
		one := string(special)
		cases = append(cases, struct {
			text string
			want impl.Op
		}{`\` + one, lit(int(special))})
	}
	for _, c := range cases {
		p, code := impl.ParsePattern([]byte(c.text))
		if code != impl.CodeOK || !sameTree(p.Tree, tree(c.want)) {
			t.Errorf("%q: code %d, %v", c.text, code, p)
		}
	}
}

func TestEveryByteAloneAndEscaped(t *testing.T) {
	for b := range 256 {
		for _, text := range []string{string([]byte{byte(b)}), string([]byte{'\\', byte(b)}),
			string([]byte{'[', byte(b), ']'}), string([]byte{'[', '\\', byte(b), ']'})} {
			p, code := impl.ParsePattern([]byte(text))
			if (code == impl.CodeOK) != inGrammar(text) {
				t.Errorf("%q: code %d", text, code)
			}
			if code == impl.CodeOK && !impl.ValidPattern(p) {
				t.Errorf("%q: not valid: %v", text, p)
			}
		}
	}
}

func TestParseRefusesTextsOutsideTheGrammar(t *testing.T) {
	texts := []string{"*", "+", "?", "{1}", "^*", "(*)", "a|*", "a**", "a+?", "a?*", "a{1}{1}", "a{1}?", "a*{2}",
		"(", ")", "(a", "a)", "())", "(()", "]", "}", "{", "[", "[a", "[^", "[^a", "[]]", "[]a]",
		"a{", "a{}", "a{,}", "a{,2}", "a{1", "a{1,", "a{1,2", "a{1;2}", "a{1,2,3}", "a{-1}", "a{ 1}", "a{1 }", "a{a}",
		"a{00001}", "a{0,00001}", "a{2,1}", "a{250,249}", "a{9999,9998}", "a{300,2}",
		`\`, `a\`, `\q`, `\D`, `\W`, `\S`, `\N`, `\0`, `\X41`, `\x`, `\x4`, `\xg0`, `\x0g`, `\ `, `\/`, "\\\n",
		"[b-a]", "[a-]", "[-a]", "[-]", "[a-b-c]", `[a-\d]`, `[\d-a]`, "[[]", "[^^]", "[a^]", `[a-\]`, `[\q]`, "[a-[]", "[a-^]", "[--a]",
		"^^", "a^", "a^b", "(^a)", "a|^b", "$$", "$a", "a$b", "(a$)", "(a$", "a$|b", "$^", "$|", "$*"}
	for _, text := range texts {
		p, code := impl.ParsePattern([]byte(text))
		if code != impl.CodeSyntax || !isZeroPattern(p) {
			t.Errorf("%q: code %d, %v", text, code, p)
		}
	}
}

func TestParseKeepsToTheGrammarOnShortTexts(t *testing.T) {
	pieces := []string{"a", "^", "$", "|", "(", ")", "*", "{", "}", "1", ",", "0", "[", "]", "-", `\`, "d", "."}
	for length := 0; length <= 4; length++ {
		eachList(pieces, length, func(list []string) {
			checkGrammar(t, strings.Join(list, ""))
		})
	}
}

func TestParseKeepsToTheGrammarOnLongerTexts(t *testing.T) {
	pieces := []string{"a", "b", "^", "$", "|", "(", ")", "()", "*", "+", "?", "{2}", "{1,}", "{1,2}", "{2,1}", "{", "}",
		",", "1", "[", "]", "[^", "-", `\`, `\d`, `\w`, `\x4`, "f", `\]`, `\-`, "[a-b]", ".", "\n", "\xff"}
	d := dice{state: 1}
	for range 100000 {
		var list []string
		for range 2 + d.below(10) {
			list = append(list, pieces[d.below(len(pieces))])
		}
		checkGrammar(t, strings.Join(list, ""))
	}
}

// checkGrammar holds ParsePattern against the grammar, for a text that is too
// short to break a limit.
func checkGrammar(t *testing.T, text string) {
	t.Helper()
	want := impl.CodeSyntax
	if inGrammar(text) {
		want = impl.CodeOK
	}
	p, code := impl.ParsePattern([]byte(text))
	if code != want {
		t.Errorf("%q: code %d, want %d", text, code, want)
	}
	if code == impl.CodeOK && !impl.ValidPattern(p) || code != impl.CodeOK && !isZeroPattern(p) {
		t.Errorf("%q: code %d beside %v", text, code, p)
	}
}

func TestParseLimitsMetAndBroken(t *testing.T) {
	times := strings.Repeat
	cases := []struct {
		text string
		code int
	}{
		{"[" + times("a", 1998) + "]", impl.CodeOK},
		{"[" + times("a", 1999) + "]", impl.CodeLimit},
		{times("*", 2000), impl.CodeSyntax},
		{times("*", 2001), impl.CodeLimit},
		{times("a", 2000), impl.CodeLimit},
		{times("(", 100) + "a" + times(")", 100), impl.CodeOK},
		{times("(", 101) + "a" + times(")", 101), impl.CodeLimit},
		{times("(", 1000) + times(")", 1000), impl.CodeLimit},
		{times("(", 101) + times(")", 100), impl.CodeSyntax},
		{times("(", 101) + times(")", 101) + "*", impl.CodeLimit},
		{times("(", 101) + times(")", 101) + "**", impl.CodeSyntax},
		{times("(", 100) + times(")", 100) + times("(", 100) + times(")", 100), impl.CodeOK},
		{times("()", 101), impl.CodeOK},
		{times("(", 99) + times("()", 2) + times(")", 99), impl.CodeOK},
		{times("(", 99) + "()(())" + times(")", 99), impl.CodeLimit},
		{"a{250}", impl.CodeOK},
		{"a{251}", impl.CodeLimit},
		{"a{250,}", impl.CodeOK},
		{"a{251,}", impl.CodeLimit},
		{"a{0,250}", impl.CodeOK},
		{"a{0,251}", impl.CodeLimit},
		{"a{250,250}", impl.CodeOK},
		{"a{250,251}", impl.CodeLimit},
		{"a{9999}", impl.CodeLimit},
		{"a{9999,9999}", impl.CodeLimit},
		{"a{9999,9998}", impl.CodeSyntax},
		{"a{251}{1}", impl.CodeSyntax},
		{"a{251})", impl.CodeSyntax},
		{"(a{251}", impl.CodeSyntax},
		{"a{251}$b", impl.CodeSyntax},
		{times("a", 500), impl.CodeOK},
		{times("a", 501), impl.CodeLimit},
		{times("a", 501) + "(", impl.CodeSyntax},
		{"^" + times("a", 500) + "$", impl.CodeOK},
		{times("|", 499), impl.CodeOK},
		{times("|", 500), impl.CodeLimit},
		{times("()", 500), impl.CodeOK},
		{times("()", 501), impl.CodeLimit},
		{times("a", 498) + "b*", impl.CodeOK},
		{times("a", 499) + "b*", impl.CodeLimit},
		{times("a", 498) + "b+", impl.CodeOK},
		{times("a", 499) + "b+", impl.CodeLimit},
		{times("a", 498) + "b?", impl.CodeOK},
		{times("a", 499) + "b?", impl.CodeLimit},
		{times("a", 499) + "b{1}", impl.CodeOK},
		{times("a", 499) + "b{0}", impl.CodeOK},
		{times("a", 500) + "b{0}", impl.CodeLimit},
		{"a{0,250}", impl.CodeOK},
		{"a{0,250}b", impl.CodeLimit},
		{"(ab){249,}c", impl.CodeOK},
		{"(ab){249,}cd", impl.CodeLimit},
		{"(ab){249,250}", impl.CodeLimit},
		{"(ab){248,249}c", impl.CodeOK},
		{"(ab){248,249}cd", impl.CodeLimit},
		{"(a{250}){2}", impl.CodeOK},
		{"(a{250}){3}", impl.CodeLimit},
		{"((a{250}){3}){0}", impl.CodeLimit},
		{"((((a{250}){250}){250}){250}){250}", impl.CodeLimit},
		{times("(", 90) + "a" + times("{250})", 90), impl.CodeLimit},
		{times("(", 100) + "a" + times("{1})", 100), impl.CodeOK},
		{times("(", 100) + "a" + times("{0})", 100), impl.CodeOK},
	}
	for _, c := range cases {
		p, code := impl.ParsePattern([]byte(c.text))
		if code != c.code {
			t.Errorf("%.50q (%d bytes): code %d, want %d", c.text, len(c.text), code, c.code)
		}
		if code == impl.CodeOK != impl.ValidPattern(p) || code != impl.CodeOK && !isZeroPattern(p) {
			t.Errorf("%.50q: code %d beside %v", c.text, code, p)
		}
	}
}

// grown is a text made by the rules of the grammar, with the tree that it
// builds and what it costs.
type grown struct {
	text   string
	tree   []impl.Op
	depth  int
	number int
}

func growAlt(d *dice, fuel int) grown {
	out := growCat(d, fuel)
	for d.below(3) == 0 {
		next := growCat(d, fuel)
		out = joinGrown(out.text+"|"+next.text, alt(), out, next)
	}
	return out
}

func growCat(d *dice, fuel int) grown {
	if d.below(8) == 0 {
		return grown{tree: tree(empty())}
	}
	out := growItem(d, fuel)
	for d.below(2) == 0 {
		next := growItem(d, fuel)
		out = joinGrown(out.text+next.text, cat(), out, next)
	}
	return out
}

func joinGrown(text string, op impl.Op, a, b grown) grown {
	return grown{text, behind(op, a.tree, b.tree), max(a.depth, b.depth), max(a.number, b.number)}
}

func growItem(d *dice, fuel int) grown {
	out := growAtom(d, fuel)
	low, high := d.below(4), -1
	if d.below(8) == 0 {
		low = 240 + d.below(14)
	}
	text := ""
	switch d.below(10) {
	case 0:
		text, low, high = "*", 0, -1
	case 1:
		text, low, high = "+", 1, -1
	case 2:
		text, low, high = "?", 0, 1
	case 3:
		text, high = fmt.Sprintf("{%d}", low), low
	case 4:
		text = fmt.Sprintf("{%03d,}", low)
	case 5:
		high = low + d.below(5)
		text = fmt.Sprintf("{%d,%04d}", low, high)
	default:
		return out
	}
	return grown{out.text + text, behind(rep(low, high), out.tree), out.depth, max(out.number, low, high)}
}

func growAtom(d *dice, fuel int) grown {
	if fuel > 0 && d.below(2) == 0 {
		inner := growAlt(d, fuel-1)
		return grown{"(" + inner.text + ")", inner.tree, inner.depth + 1, inner.number}
	}
	atoms := []grown{
		{text: "a", tree: tree(lit('a'))},
		{text: "-", tree: tree(lit('-'))},
		{text: ".", tree: tree(set(0, 9, 11, 255))},
		{text: `\x7C`, tree: tree(lit('|'))},
		{text: `\$`, tree: tree(lit('$'))},
		{text: "[^]", tree: tree(set(0, 255))},
		{text: "[]", tree: tree(set())},
		{text: `[\d()a-c]`, tree: tree(set('(', ')', '0', '9', 'a', 'c'))},
		{text: `[^\n]`, tree: tree(set(0, 9, 11, 255))},
		{text: `\s`, tree: tree(set(9, 10, 13, 13, 32, 32))},
	}
	return atoms[d.below(len(atoms))]
}

func TestParseOfGrownTexts(t *testing.T) {
	d := dice{state: 2}
	seen := [3]int{}
	for range 20000 {
		g := growAlt(&d, 4)
		p := impl.Pattern{Left: d.below(2) == 0, Right: d.below(2) == 0, Tree: g.tree}
		text := anchored(p, g.text)
		want := impl.CodeOK
		if len(text) > impl.MaxPattern || g.number > impl.MaxRepeat || g.depth > impl.MaxDepth || theSize(g.tree) > impl.MaxSize {
			want, p = impl.CodeLimit, impl.Pattern{}
		}
		seen[want]++
		got, code := impl.ParsePattern([]byte(text))
		if code != want || !samePattern(got, p) {
			t.Errorf("%q: code %d, want %d, %v", text, code, want, got)
		}
	}
	if seen[impl.CodeOK] < 1000 || seen[impl.CodeLimit] < 1000 {
		t.Errorf("the grown texts are too much alike: %v", seen)
	}
}

func anchored(p impl.Pattern, text string) string {
	if p.Left {
		text = "^" + text
	}
	if p.Right {
		text += "$"
	}
	return text
}

func TestParseOfSpoiledTexts(t *testing.T) {
	d := dice{state: 3}
	for range 20000 {
		text := []byte(growAlt(&d, 2).text)
		if len(text) == 0 {
			continue
		}
		at := d.below(len(text))
		switch d.below(3) {
		case 0:
			text = slices.Delete(text, at, at+1)
		case 1:
			text = slices.Insert(text, at, `^$()[]{}|*-\,`[d.below(13)])
		case 2:
			text[at] = byte(d.below(256))
		}
		p, code := impl.ParsePattern(text)
		if (code == impl.CodeSyntax) == inGrammar(string(text)) {
			t.Errorf("%q: code %d", text, code)
		}
		if code == impl.CodeOK != impl.ValidPattern(p) {
			t.Errorf("%q: code %d beside %v", text, code, p)
		}
	}
}

func TestParseLeavesItsTextAlone(t *testing.T) {
	const source = `^(a|[b-d\x00]{2,3})\w*[^q]$`
	text := []byte(source)
	first, _ := impl.ParsePattern(text)
	if string(text) != source {
		t.Errorf("the text was changed to %q", text)
	}
	want := copyTree(first.Tree)
	clear(text)
	if !sameTree(first.Tree, want) {
		t.Error("the answer hangs on the text")
	}
	checkOwnSets(t, source, first.Tree)
	second, _ := impl.ParsePattern([]byte(source))
	if !sameTree(second.Tree, want) {
		t.Error("the second answer hangs on the first")
	}
}
