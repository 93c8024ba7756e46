package tests

import (
	"bytes"
	"fmt"
	"math"
	"slices"
	"strings"
	"testing"

	"loop.example/s0027/impl"
)

func TestSplitByHand(t *testing.T) {
	cases := []struct {
		text string
		want []string
	}{
		{"", nil},
		{"a", []string{"a"}},
		{"a\n", []string{"a"}},
		{"\n", []string{""}},
		{"\n\n", []string{"", ""}},
		{"\n\n\n", []string{"", "", ""}},
		{"a\n\nb", []string{"a", "", "b"}},
		{"a\n\nb\n", []string{"a", "", "b"}},
		{"a\n\nb\n\n", []string{"a", "", "b", ""}},
		{"\na", []string{"", "a"}},
		{"\na\n", []string{"", "a"}},
		{"one\ntwo\nthree", []string{"one", "two", "three"}},
		{"a\r\nb\r", []string{"a\r", "b\r"}},
		{"\x00\n\xff\n\x0b\x09", []string{"\x00", "\xff", "\x0b\x09"}},
		{"a~b", []string{"a~b"}},
		{"\u2028\u0085", []string{"\u2028\u0085"}},
	}
	for _, c := range cases {
		if got := impl.SplitLines([]byte(c.text)); !sameTexts(got, lines(c.want...)) {
			t.Errorf("%q: got %q", c.text, got)
		}
	}
	if got := impl.SplitLines(nil); len(got) != 0 {
		t.Errorf("no text: got %q", got)
	}
}

// wantedLines cuts a text in the words of section 4.1.
func wantedLines(text []byte) [][]byte {
	var out [][]byte
	last := []byte{}
	for _, b := range text {
		if b == '\n' {
			out, last = append(out, last), []byte{}
		} else {
			last = append(last, b)
		}
	}
	if len(last) > 0 {
		out = append(out, last)
	}
	return out
}

func TestSplitOfEveryShortText(t *testing.T) {
	for _, text := range linesOver("a\n\x0b", 8) {
		if got := impl.SplitLines(text); !sameTexts(got, wantedLines(text)) {
			t.Errorf("%q: got %q", text, got)
		}
	}
	all := make([]byte, 256)
	for i := range all {
		all[i] = byte(i)
	}
	if got := impl.SplitLines(all); !sameTexts(got, [][]byte{all[:10], all[11:]}) {
		t.Errorf("every byte: %q", got)
	}
	for _, text := range [][]byte{bytes.Repeat([]byte("\n"), 1000000), bytes.Repeat([]byte("ab\n"), 300001), bytes.Repeat([]byte("a"), 1000000)} {
		if got := impl.SplitLines(text); !sameTexts(got, wantedLines(text)) {
			t.Errorf("%d bytes: %d lines", len(text), len(got))
		}
	}
}

func TestSplitAnswersNewMemory(t *testing.T) {
	text := []byte("abc\n\nde\nf\n\nghij")
	before := slices.Clone(text)
	got := impl.SplitLines(text)
	spoilText(text)
	if !sameTexts(got, wantedLines(before)) {
		t.Errorf("shares memory with its text: %q", got)
	}
	copy(text, before)
	checkOwnTexts(t, "SplitLines", got)
	if !slices.Equal(text, before) {
		t.Error("writing into a line changes the text")
	}
}

func TestBuildByHand(t *testing.T) {
	got := build(t, 2, "abc", "xabc", "ab", "abcxab", "", "aaaaa")
	want := impl.Segment{
		Base:  2,
		Lines: lines("abc", "xabc", "ab", "abcxab", "", "aaaaa"),
		Keys:  []int{number("aaa"), number("abc"), number("bcx"), number("cxa"), number("xab")},
		Posts: [][]int{{7}, {2, 3, 5}, {5}, {5}, {3, 5}},
	}
	if !sameSegment(got, want) {
		t.Errorf("got %v", got)
	}
	got = build(t, 0, "\xff\xff\xff", "\x00\x00\x00", "\x00\x00\x00\x01", "\xff\x00")
	want = impl.Segment{
		Lines: lines("\xff\xff\xff", "\x00\x00\x00", "\x00\x00\x00\x01", "\xff\x00"),
		Keys:  []int{0, 1, 16777215},
		Posts: [][]int{{1, 2}, {2}, {0}},
	}
	if !sameSegment(got, want) {
		t.Errorf("got %v", got)
	}
	// No trigram goes from one line into the next.
	for _, texts := range [][]string{{""}, {"a"}, {"ab"}, {"ab", "c"}, {"", "", "ab", "cd", "ef"}} {
		if s := build(t, 5, texts...); len(s.Keys) != 0 || len(s.Posts) != 0 || !sameTexts(s.Lines, lines(texts...)) {
			t.Errorf("%q: got %v", texts, s)
		}
	}
}

func TestBuildAtItsLimits(t *testing.T) {
	empty := func(n int) [][]byte { return make([][]byte, n) }
	bytesIn := func(sizes ...int) [][]byte {
		var out [][]byte
		for _, n := range sizes {
			out = append(out, bytes.Repeat([]byte("ab"), n)[:n])
		}
		return out
	}
	cases := []struct {
		name  string
		base  int
		lines [][]byte
		code  int
	}{
		{"no line", 0, nil, impl.CodeBad},
		{"no line, not nil", 0, empty(0), impl.CodeBad},
		{"no line at MaxLines", impl.MaxLines, nil, impl.CodeBad},
		{"one empty line", 0, empty(1), impl.CodeOK},
		{"base -1", -1, empty(1), impl.CodeBad},
		{"the least base", math.MinInt, empty(1), impl.CodeBad},
		{"the least base, so that the sum is near 0", math.MinInt, empty(impl.MaxLines), impl.CodeBad},
		{"base 999", impl.MaxLines - 1, empty(1), impl.CodeOK},
		{"base 999, two lines", impl.MaxLines - 1, empty(2), impl.CodeBad},
		{"base 1000", impl.MaxLines, empty(1), impl.CodeBad},
		{"base 1001", impl.MaxLines + 1, empty(1), impl.CodeBad},
		{"a sum that wraps", math.MaxInt, empty(1), impl.CodeBad},
		{"a sum that wraps to the least", math.MaxInt - 1, empty(2), impl.CodeBad},
		{"a great sum that does not wrap", math.MaxInt - 1, empty(1), impl.CodeBad},
		{"a base of 32 bits", 1 << 32, empty(1), impl.CodeBad},
		{"all lines", 0, empty(impl.MaxLines), impl.CodeOK},
		{"one line more", 0, empty(impl.MaxLines + 1), impl.CodeBad},
		{"all lines from 1 on", 1, empty(impl.MaxLines - 1), impl.CodeOK},
		{"one line more from 1 on", 1, empty(impl.MaxLines), impl.CodeBad},
		{"990 and 10", 990, empty(10), impl.CodeOK},
		{"990 and 11", 990, empty(11), impl.CodeBad},
		{"very many lines", 0, empty(1000000), impl.CodeBad},
		{"all bytes in one line", 0, bytesIn(20000), impl.CodeOK},
		{"one byte more in one line", 0, bytesIn(20001), impl.CodeBad},
		{"all bytes in three lines", 7, bytesIn(1, 19000, 999), impl.CodeOK},
		{"one byte more in three lines", 7, bytesIn(1, 19000, 1000), impl.CodeBad},
		{"all bytes and an empty line", 7, bytesIn(20000, 0), impl.CodeOK},
		{"all bytes and one more line", 7, bytesIn(20000, 1), impl.CodeBad},
		{"all bytes behind one", 7, bytesIn(1, 20000), impl.CodeBad},
		{"very many bytes", 0, bytesIn(10000000, 10000000), impl.CodeBad},
		{"a newline alone", 0, lines("\n"), impl.CodeBad},
		{"a newline in front", 0, lines("\na"), impl.CodeBad},
		{"a newline in the middle", 0, lines("a\nb"), impl.CodeBad},
		{"a newline behind", 0, lines("ab\n"), impl.CodeBad},
		{"a newline in the last line", 0, lines("ab", "", "c\n"), impl.CodeBad},
		{"the bytes beside the newline", 0, lines("\x09\x0b\r"), impl.CodeOK},
	}
	for _, c := range cases {
		got, code := impl.BuildSegment(c.base, c.lines)
		want, ok := wantedSegment(c.base, c.lines)
		if ok != (c.code == impl.CodeOK) {
			t.Fatalf("%s: the test is wrong", c.name)
		}
		if code != c.code || !sameSegment(got, want) {
			t.Errorf("%s: code %d, got %.100v", c.name, code, got)
		}
	}
	full := slices.Repeat(bytesIn(20), impl.MaxLines)
	got, code := impl.BuildSegment(0, full)
	if want, _ := wantedSegment(0, full); code != impl.CodeOK || !sameSegment(got, want) {
		t.Errorf("all lines and all bytes: code %d", code)
	}
	full[999] = bytesIn(21)[0]
	if got, code := impl.BuildSegment(0, full); code != impl.CodeBad || !isZeroSegment(got) {
		t.Errorf("all lines and one byte more: code %d", code)
	}
}

func TestBuildOfRolledLines(t *testing.T) {
	d := dice{state: 51}
	for range 2000 {
		texts := rollLines(&d, 12, 12)
		base := d.below(impl.MaxLines + 2)
		if d.below(10) == 0 {
			texts[d.below(len(texts))] = []byte("a\nb")
		}
		got, code := impl.BuildSegment(base, texts)
		want, ok := wantedSegment(base, texts)
		if ok != (code == impl.CodeOK) || !sameSegment(got, want) {
			t.Fatalf("%q at %d: code %d, got %v, want %v", texts, base, code, got, want)
		}
	}
	for range 5 {
		texts := rollLines(&d, impl.MaxLines, 20)
		want, _ := wantedSegment(0, texts)
		if got := buildLines(t, 0, texts); !sameSegment(got, want) {
			t.Errorf("%d lines", len(texts))
		}
	}
}

func TestBuildAnswersNewMemory(t *testing.T) {
	one := []byte("abcabcd")
	texts := [][]byte{one, one[2:], one[:3], {}, nil, []byte("xyz abc")}
	before := copyTexts(texts)
	got := buildLines(t, 3, texts)
	if !sameTexts(texts, before) {
		t.Fatal("the argument was changed")
	}
	for i := range texts {
		spoilText(texts[i])
		texts[i] = []byte("other")
	}
	want, _ := wantedSegment(3, before)
	if !sameSegment(got, want) {
		t.Errorf("shares memory with the argument: %v", got)
	}
	checkOwnSegment(t, "BuildSegment", got)
	if string(one) != "#######" {
		t.Errorf("writing into the answer changes the argument: %q", one)
	}
}

func TestMergeByHand(t *testing.T) {
	got, code := impl.MergeSegments(build(t, 1, "abc", "x"), build(t, 3, "xabc", "", "abc"))
	want := impl.Segment{
		Base:  1,
		Lines: lines("abc", "x", "xabc", "", "abc"),
		Keys:  []int{number("abc"), number("xab")},
		Posts: [][]int{{1, 3, 5}, {3}},
	}
	if code != impl.CodeOK || !sameSegment(got, want) {
		t.Errorf("code %d, got %v", code, got)
	}
	got, code = impl.MergeSegments(build(t, 998, "xyz"), build(t, 999, "abc"))
	want = impl.Segment{Base: 998, Lines: lines("xyz", "abc"), Keys: []int{number("abc"), number("xyz")}, Posts: [][]int{{999}, {998}}}
	if code != impl.CodeOK || !sameSegment(got, want) {
		t.Errorf("code %d, got %v", code, got)
	}
	got, code = impl.MergeSegments(build(t, 0, ""), build(t, 1, "ab"))
	if code != impl.CodeOK || !sameSegment(got, impl.Segment{Lines: lines("", "ab")}) {
		t.Errorf("code %d, got %v", code, got)
	}
}

func checkMergeRefused(t *testing.T, name string, a, b impl.Segment) {
	t.Helper()
	if got, code := impl.MergeSegments(a, b); code != impl.CodeBad || !isZeroSegment(got) {
		t.Errorf("%s: code %d, got %.100v", name, code, got)
	}
}

func TestMergeRefuses(t *testing.T) {
	first := build(t, 5, "abcd", "abc")
	for base := range 12 {
		second := build(t, base, "abc", "x")
		if base != 7 {
			checkMergeRefused(t, fmt.Sprint("the second at ", base), first, second)
		} else if _, code := impl.MergeSegments(first, second); code != impl.CodeOK {
			t.Errorf("the second at 7: code %d", code)
		}
	}
	checkMergeRefused(t, "itself", first, first)
	checkMergeRefused(t, "in another order", build(t, 7, "abc"), first)
	checkMergeRefused(t, "two zero segments", impl.Segment{}, impl.Segment{})
	for _, c := range changedSegments(t, 5) {
		behind := c.s.Base + len(c.s.Lines)
		if behind >= 0 && behind < impl.MaxLines {
			checkMergeRefused(t, c.name+", first", c.s, build(t, behind, "abc"))
		}
		if c.s.Base > 0 && c.s.Base <= impl.MaxLines {
			checkMergeRefused(t, c.name+", second", build(t, c.s.Base-1, "abc"), c.s)
		}
		checkMergeRefused(t, c.name+", second behind 5", build(t, 0, "a", "b", "c", "abc", ""), c.s)
		checkMergeRefused(t, c.name+", twice", c.s, c.s)
	}
}

func TestMergeAtItsLimits(t *testing.T) {
	size := func(n int) string { return strings.Repeat("abc", n)[:n] }
	for _, c := range []struct{ first, second, code int }{
		{20000, 0, impl.CodeOK}, {0, 20000, impl.CodeOK}, {10000, 10000, impl.CodeOK}, {19999, 1, impl.CodeOK},
		{20000, 1, impl.CodeBad}, {1, 20000, impl.CodeBad}, {10000, 10001, impl.CodeBad}, {20000, 20000, impl.CodeBad},
	} {
		got, code := impl.MergeSegments(build(t, 4, size(c.first)), build(t, 5, size(c.second)))
		want, _ := wantedSegment(4, lines(size(c.first), size(c.second)))
		if code != c.code || !sameSegment(got, want) {
			t.Errorf("%d and %d bytes: code %d", c.first, c.second, code)
		}
	}
	for _, cut := range []int{1, 500, 999} {
		texts := slices.Repeat(lines("abc", "", "xabc", "ab"), impl.MaxLines/4)
		got, code := impl.MergeSegments(buildLines(t, 0, texts[:cut]), buildLines(t, cut, texts[cut:]))
		want, _ := wantedSegment(0, texts)
		if code != impl.CodeOK || !sameSegment(got, want) {
			t.Errorf("all lines, cut at %d: code %d", cut, code)
		}
	}
}

func TestMergeOfRolledSegments(t *testing.T) {
	d := dice{state: 52}
	for range 1500 {
		texts := append(rollLines(&d, 10, 10), rollLines(&d, 10, 10)...)
		base, cut := d.below(impl.MaxLines-20), 1+d.below(len(texts)-1)
		a, b := buildLines(t, base, texts[:cut]), buildLines(t, base+cut, texts[cut:])
		beforeA, beforeB := copySegment(a), copySegment(b)
		got, code := impl.MergeSegments(a, b)
		want, _ := wantedSegment(base, texts)
		if code != impl.CodeOK || !sameSegment(got, want) {
			t.Fatalf("%q cut at %d: code %d, got %v", texts, cut, code, got)
		}
		if !sameSegment(a, beforeA) || !sameSegment(b, beforeB) {
			t.Fatal("an argument was changed")
		}
		spoilSegment(a)
		spoilSegment(b)
		if !sameSegment(got, want) {
			t.Fatal("shares memory with an argument")
		}
		checkOwnSegment(t, "MergeSegments", got)
	}
}
