package tests

import (
	"bytes"
	"slices"
	"testing"

	"loop.example/s0027/impl"
)

func TestMatchByHand(t *testing.T) {
	cases := []struct {
		text    string
		in, out []string
	}{
		{`^$`, []string{""}, []string{"a", "\n"}},
		{`^`, []string{"", "a", "\n"}, nil},
		{`$`, []string{"", "a", "\n"}, nil},
		{`^a`, []string{"a", "ab", "a\n"}, []string{"", "ba", "\na"}},
		{`a$`, []string{"a", "ba", "\na"}, []string{"", "ab", "a\n"}},
		{`^a$`, []string{"a"}, []string{"", "aa", "ab", "ba", "\na", "a\n"}},
		{`a`, []string{"a", "ba", "ab", "xay", "\na\n"}, []string{"", "b", "A"}},
		{`^.$`, []string{"a", "\x00", "\xff"}, []string{"", "\n", "ab"}},
		{`^[^]$`, []string{"a", "\x00", "\xff", "\n"}, []string{"", "ab"}},
		{`[]`, nil, []string{"", "a", "\n"}},
		{`[]|a`, []string{"a"}, []string{"", "b"}},
		{`^([])*$`, []string{""}, []string{"a"}},
		{`^([]|a)+$`, []string{"a", "aa"}, []string{"", "b"}},
		{`^a{3}$`, []string{"aaa"}, []string{"", "aa", "aaaa"}},
		{`^a{2,}$`, []string{"aa", "aaaaa"}, []string{"", "a"}},
		{`^a{2,4}$`, []string{"aa", "aaa", "aaaa"}, []string{"", "a", "aaaaa"}},
		{`^a{0}$`, []string{""}, []string{"a"}},
		{`^(a{2}){2,3}$`, []string{"aaaa", "aaaaaa"}, []string{"", "aa", "aaa", "aaaaa", "aaaaaaaa"}},
		{`^((a{2}b?){2})*$`, []string{"", "aaaa", "aabaab", "aaaab", "aaaaaaaa"}, []string{"aa", "aaaaaa", "baaaa"}},
		{`^(a|ab)(c|bcd)(d*)$`, []string{"abcd", "acd", "abc", "abcdd", "ac"}, []string{"ab", "abd"}},
		{`^(()|a)*$`, []string{"", "a", "aa"}, []string{"b"}},
		{`^(a?){3}$`, []string{"", "a", "aa", "aaa"}, []string{"aaaa"}},
		{`^(a*b*)*$`, []string{"", "abba", "bbb"}, []string{"abc"}},
		{`error \d+$`, []string{"error 17", "x error 9"}, []string{"error ", "error 9 ", "eror 9"}},
	}
	for _, c := range cases {
		p := read(t, c.text)
		for _, line := range c.in {
			if !impl.MatchLine(p, []byte(line)) {
				t.Errorf("%q does not match %q", c.text, line)
			}
		}
		for _, line := range c.out {
			if impl.MatchLine(p, []byte(line)) {
				t.Errorf("%q matches %q", c.text, line)
			}
		}
	}
}

func TestMatchOfWrongPatterns(t *testing.T) {
	for _, p := range wrongPatterns() {
		for _, line := range []string{"", "a", "aaa"} {
			if impl.MatchLine(p, []byte(line)) {
				t.Errorf("%.80v matches %q", p, line)
			}
		}
	}
}

func TestMatchOfShortTrees(t *testing.T) {
	lines := linesOver("ab\n", 3)
	for length := 1; length <= 4; length++ {
		eachList(shortTreeChoices(), length, func(list []impl.Op) {
			if theSize(list) < 0 {
				return
			}
			eachAnchoring(list, func(p impl.Pattern) {
				for _, line := range lines {
					if impl.MatchLine(p, line) != inLanguage(p, line) {
						t.Errorf("%v: wrong of %q", p, line)
					}
				}
			})
		})
	}
}

func TestMatchOfGrownTrees(t *testing.T) {
	d := dice{state: 22}
	found := 0
	for range 4000 {
		p := impl.Pattern{Left: d.below(2) == 0, Right: d.below(2) == 0, Tree: growTree(&d, 1+d.below(12))}
		if theSize(p.Tree) > impl.MaxSize {
			continue
		}
		for range 12 {
			line := make([]byte, d.below(30))
			for i := range line {
				line[i] = []byte{'a', 'b', '$', '\n', 200, '-', 'q'}[d.below(7)]
			}
			want := inLanguage(p, line)
			if impl.MatchLine(p, line) != want {
				t.Errorf("%v: wrong of %q", p, line)
			}
			if want {
				found++
			}
		}
	}
	if found < 1000 {
		t.Errorf("only %d lines match", found)
	}
}

func TestMatchAtTheLongestLines(t *testing.T) {
	line := bytes.Repeat([]byte("ab"), impl.MaxBytes/2)
	for _, text := range []string{``, `^`, `ab$`, `^(ab)*$`, `^([^]*a[^]{200}|[^]{4}a)*b$`, `^((a|b|ab){20,40})+$`} {
		p := read(t, text)
		if !impl.MatchLine(p, line) {
			t.Errorf("%q does not match a line of MaxBytes bytes", text)
		}
		if impl.MatchLine(p, append(slices.Clone(line), 'a', 'b')) || impl.MatchLine(p, append(slices.Clone(line), 'b')) {
			t.Errorf("%q matches a line of more bytes", text)
		}
		if impl.MatchLine(read(t, `^(ab)*a$`), line) {
			t.Error("a long line that is not in the language matches")
		}
	}
}

func TestMatchHasNoBudget(t *testing.T) {
	p := read(t, `^[^]*a[^]{240}$`)
	if _, code := impl.Compile(p); code != impl.CodeBudget {
		t.Fatalf("code %d", code)
	}
	d := dice{state: 23}
	line := make([]byte, 5000)
	for i := range line {
		line[i] = "ab"[d.below(2)]
	}
	for n := 230; n < len(line); n += 7 {
		want := n > 240 && line[n-241] == 'a'
		if impl.MatchLine(p, line[:n]) != want {
			t.Errorf("wrong of the first %d bytes", n)
		}
	}
}

func TestMatchLeavesItsArgumentsAlone(t *testing.T) {
	p := impl.Pattern{Tree: tree(set('a', 'b'), rep(2, 3), empty(), alt())}
	before := copyTree(p.Tree)
	line := []byte("xaby")
	if !impl.MatchLine(p, line) || !sameTree(p.Tree, before) || string(line) != "xaby" {
		t.Errorf("changed: %v, %q", p, line)
	}
}
