package tests

import (
	"bytes"
	"fmt"
	"math"
	"slices"
	"strings"
	"testing"

	"loop.example/s0027/impl"
)

// stateOf answers a store of these texts, each of which is a segment, and of
// open lines behind them.
func stateOf(t *testing.T, open string, segments ...string) impl.State {
	t.Helper()
	var s slowStore
	for _, text := range segments {
		s.ingest([]byte(text))
		s.seal()
	}
	s.ingest([]byte(open))
	return s.state(t)
}

func checkIngest(t *testing.T, name string, st impl.State, text string, wantCode int, want impl.State) {
	t.Helper()
	before := copyState(st)
	got, code := impl.Ingest(st, []byte(text))
	if code != wantCode || !sameState(got, want) {
		t.Errorf("%s: code %d, want %d, got %.300q", name, code, wantCode, got)
	}
	if !sameState(st, before) {
		t.Errorf("%s: the state that was given is changed", name)
	}
}

func TestIngestByHand(t *testing.T) {
	cases := []struct {
		text string
		open []string
	}{
		{"", nil},
		{"a", []string{"a"}},
		{"a\n", []string{"a"}},
		{"\n", []string{""}},
		{"\n\n\n", []string{"", "", ""}},
		{"a\n\nb", []string{"a", "", "b"}},
		{"a\n\nb\n", []string{"a", "", "b"}},
		{"error 17\nok\n\xff\x00~\n", []string{"error 17", "ok", "\xff\x00~"}},
	}
	for _, c := range cases {
		checkIngest(t, fmt.Sprintf("%q into nothing", c.text), impl.State{}, c.text, impl.CodeOK, impl.State{Open: lines(c.open...)})
		sealedOnly := stateOf(t, "", "s\nt", "u")
		checkIngest(t, fmt.Sprintf("%q behind sealed lines", c.text), sealedOnly, c.text, impl.CodeOK, impl.State{Segs: sealedOnly.Segs, Open: lines(c.open...)})
		both := stateOf(t, "x\n\n", "s\nt")
		checkIngest(t, fmt.Sprintf("%q behind open lines", c.text), both, c.text, impl.CodeOK, impl.State{Segs: both.Segs, Open: append(lines("x", ""), lines(c.open...)...)})
	}
	got, code := impl.Ingest(impl.State{Segs: [][]byte{}, Open: [][]byte{nil}}, nil)
	if code != impl.CodeOK || !sameState(got, impl.State{Open: lines("")}) {
		t.Errorf("no text: code %d, %v", code, got)
	}
}

// Promise 17: the limits are met exactly, and broken by one, whatever of the
// lines is sealed.
func TestIngestAtTheLimitOfLines(t *testing.T) {
	for _, sealedCount := range []int{0, 1, 500, 999, 1000} {
		for _, openCount := range []int{0, 1, 499, 999, 1000} {
			left := 1000 - sealedCount - openCount
			if left < 0 {
				continue
			}
			name := fmt.Sprintf("%d sealed, %d open", sealedCount, openCount)
			st := stateOf(t, strings.Repeat("\n", openCount), strings.Repeat("\n", sealedCount))
			full := impl.State{Segs: st.Segs, Open: make([][]byte, 1000-sealedCount)}
			checkIngest(t, name, st, strings.Repeat("\n", left), impl.CodeOK, full)
			checkIngest(t, name+", one more", st, strings.Repeat("\n", left+1), impl.CodeFull, st)
			checkIngest(t, name+", one more with no newline behind it", st, strings.Repeat("\n", left)+"a", impl.CodeFull, st)
			checkIngest(t, name+", none", st, "", impl.CodeOK, st)
			checkIngest(t, name+", very many", st, strings.Repeat("\n", 1000000), impl.CodeFull, st)
			checkIngest(t, name+", none into the full store", full, "", impl.CodeOK, full)
			checkIngest(t, name+", one into the full store", full, "\n", impl.CodeFull, full)
		}
	}
}

func TestIngestAtTheLimitOfBytes(t *testing.T) {
	as := func(n int) string { return strings.Repeat("a", n) }
	for _, sealedBytes := range []int{0, 1, 10000, 19999, 20000} {
		for _, openBytes := range []int{0, 1, 9999, 20000} {
			left := 20000 - sealedBytes - openBytes
			if left < 0 {
				continue
			}
			name := fmt.Sprintf("%d sealed, %d open", sealedBytes, openBytes)
			st := stateOf(t, as(openBytes), as(sealedBytes))
			with := func(texts ...string) impl.State {
				return impl.State{Segs: st.Segs, Open: append(copyTexts(st.Open), lines(texts...)...)}
			}
			checkIngest(t, name, st, as(left)+"\n", impl.CodeOK, with(as(left)))
			checkIngest(t, name+", one more", st, as(left+1), impl.CodeFull, st)
			checkIngest(t, name+", newlines are not counted", st, "\n\n"+as(left/2)+"\n"+as(left-left/2)+"\n\n", impl.CodeOK, with("", "", as(left/2), as(left-left/2), ""))
			checkIngest(t, name+", one more in the last of many lines", st, "\n\n"+as(left)+"\n\na", impl.CodeFull, st)
			checkIngest(t, name+", very many", st, as(1000000), impl.CodeFull, st)
			checkIngest(t, name+", none into the full store", with(as(left)), "", impl.CodeOK, with(as(left)))
			checkIngest(t, name+", an empty line into the full store", with(as(left)), "\n", impl.CodeOK, with(as(left), ""))
			checkIngest(t, name+", a byte into the full store", with(as(left)), "b", impl.CodeFull, with(as(left)))
		}
	}
}

func TestIngestAtBothLimits(t *testing.T) {
	row := strings.Repeat("a", 20) + "\n"
	for _, segments := range [][]string{nil, {strings.Repeat(row, 1)}, {strings.Repeat(row, 300), strings.Repeat(row, 600)}, {strings.Repeat(row, 999)}} {
		st := stateOf(t, "", segments...)
		left := 1000 - strings.Count(strings.Join(segments, ""), "\n")
		full := impl.State{Segs: st.Segs, Open: slices.Repeat(lines(row[:20]), left)}
		checkIngest(t, "both limits met", st, strings.Repeat(row, left), impl.CodeOK, full)
		checkIngest(t, "a byte more", st, strings.Repeat(row, left-1)+"a"+row, impl.CodeFull, st)
		checkIngest(t, "a line more", st, strings.Repeat(row, left)+"\n", impl.CodeFull, st)
		checkIngest(t, "a line more, a byte less", st, strings.Repeat(row, left)[1:]+"\n", impl.CodeFull, st)
		checkIngest(t, "nothing more", full, "", impl.CodeOK, full)
		checkIngest(t, "a line into the full store", full, "\n", impl.CodeFull, full)
	}
}

func checkSeal(t *testing.T, name string, st, want impl.State) {
	t.Helper()
	before := copyState(st)
	got, code := impl.Seal(st)
	if code != impl.CodeOK || !sameState(got, want) {
		t.Errorf("%s: code %d, got %.300q, want %.300q", name, code, got, want)
	}
	if !sameState(st, before) {
		t.Errorf("%s: the state that was given is changed", name)
	}
}

func TestSealByHand(t *testing.T) {
	checkSeal(t, "nothing", impl.State{}, impl.State{})
	checkSeal(t, "no open line", stateOf(t, "", "abc\nd", "e"), stateOf(t, "", "abc\nd", "e"))
	checkSeal(t, "the first lines", impl.State{Open: lines("abc", "", "ab")}, stateOf(t, "", "abc\n\nab"))
	checkSeal(t, "lines behind others", stateOf(t, "xabc\n\n", "abc\nab\n"), stateOf(t, "", "abc\nab\n", "xabc\n\n"))
	checkSeal(t, "one empty line", impl.State{Open: lines("")}, stateOf(t, "", "\n"))
	checkSeal(t, "MaxLines lines", impl.State{Open: make([][]byte, 1000)}, stateOf(t, "", strings.Repeat("\n", 1000)))
	long := strings.Repeat("ab", 10000)
	checkSeal(t, "MaxBytes bytes", impl.State{Open: lines(long)}, stateOf(t, "", long))
	checkSeal(t, "the last line", stateOf(t, "x", strings.Repeat("\n", 999)), stateOf(t, "", strings.Repeat("\n", 999), "x"))
	got, _ := impl.Seal(impl.State{Open: lines("ab", "c")})
	if want := [][]byte{sealed('T', 'G', 0, 2, 2, 'a', 'b', 1, 'c', 0)}; !sameTexts(got.Segs, want) || len(got.Open) != 0 {
		t.Errorf("got %v, want %v", got, want)
	}
}

func checkMerge(t *testing.T, name string, st impl.State, k, wantCode int, want impl.State) {
	t.Helper()
	before := copyState(st)
	got, code := impl.Merge(st, k)
	if code != wantCode || !sameState(got, want) {
		t.Errorf("%s, merge of %d: code %d, want %d, got %.300q, want %.300q", name, k, code, wantCode, got, want)
	}
	if !sameState(st, before) {
		t.Errorf("%s, merge of %d: the state that was given is changed", name, k)
	}
}

func TestMergeStateByHand(t *testing.T) {
	three := stateOf(t, "open", "abc\nab", "xabc\n\n", "bca")
	checkMerge(t, "three", three, 0, impl.CodeOK, stateOf(t, "open", "abc\nab\nxabc\n\n", "bca"))
	checkMerge(t, "three", three, 1, impl.CodeOK, stateOf(t, "open", "abc\nab", "xabc\n\nbca"))
	once, _ := impl.Merge(three, 1)
	checkMerge(t, "and again", once, 0, impl.CodeOK, stateOf(t, "open", "abc\nab\nxabc\n\nbca"))
	row := strings.Repeat("a", 40) + "\n"
	full := stateOf(t, "", strings.Repeat(row, 250), strings.Repeat(row, 250), strings.Repeat("\n", 500))
	checkMerge(t, "MaxBytes bytes", full, 0, impl.CodeOK, stateOf(t, "", strings.Repeat(row, 500), strings.Repeat("\n", 500)))
	checkMerge(t, "up to MaxLines", full, 1, impl.CodeOK, stateOf(t, "", strings.Repeat(row, 250), strings.Repeat(row, 250)+strings.Repeat("\n", 500)))
	whole, _ := impl.Merge(full, 0)
	checkMerge(t, "all there can be", whole, 0, impl.CodeOK, stateOf(t, "", strings.Repeat(row, 500)+strings.Repeat("\n", 500)))
}

func TestMergeOutOfRange(t *testing.T) {
	outer := []int{-1, -2, -1000, math.MinInt, math.MinInt + 1, math.MaxInt, math.MaxInt - 1, 1000, 9999}
	for count := range 5 {
		var segments []string
		for i := range count {
			segments = append(segments, strings.Repeat("ab\n", i+1))
		}
		for _, open := range []string{"", "x\ny"} {
			st := stateOf(t, open, segments...)
			name := fmt.Sprintf("%d segments", count)
			for _, k := range append(outer, count-1, count, count+1) {
				checkMerge(t, name, st, k, impl.CodeRange, st)
			}
			for k := range count - 1 {
				together := slices.Concat(segments[:k], []string{segments[k] + segments[k+1]}, segments[k+2:])
				checkMerge(t, name, st, k, impl.CodeOK, stateOf(t, open, together...))
			}
		}
	}
}

type wrongState struct {
	name string
	st   impl.State
}

// wrongStates are not valid, a few for each way.
func wrongStates(t *testing.T) []wrongState {
	t.Helper()
	at := func(base int, texts ...string) []byte { return wantedEncoding(build(t, base, texts...)) }
	as := func(n int) string { return strings.Repeat("a", n) }
	segs := func(list ...[]byte) impl.State { return impl.State{Segs: list} }
	one, two := at(0, "abc"), at(1, "abc", "d")
	flipped := slices.Clone(one)
	flipped[len(flipped)-1] ^= 1
	many := func(base, count int) []byte { return wantedEncoding(buildLines(t, base, make([][]byte, count))) }
	out := []wrongState{
		{"no bytes", segs(nil)},
		{"no bytes behind a segment", segs(one, []byte{})},
		{"no bytes in front of one", segs(nil, one)},
		{"a text", segs([]byte("abc"))},
		{"a segment's beginning", segs([]byte("TG"))},
		{"a byte less", segs(one[:len(one)-1])},
		{"a byte more", segs(append(slices.Clone(one), 0))},
		{"a wrong checksum", segs(flipped)},
		{"a wrong checksum in the last of three", segs(one, two, append(at(3, "x"), 1))},
		{"a segment of no line", segs(sealed('T', 'G', 0, 0, 0))},
		{"a key too few", segs(sealed('T', 'G', 0, 1, 3, 'a', 'b', 'c', 0))},
		{"a first base of 1", segs(at(1, "abc"))},
		{"a first base of 999", segs(at(999, ""))},
		{"the same segment twice", segs(one, one)},
		{"segments turned round", segs(two, one)},
		{"a base one too small", segs(at(0, "a", "b"), at(1, "c"))},
		{"a base one too great", segs(one, at(2, "c"))},
		{"a base that does not follow at the end", segs(one, two, at(4, "x"))},
		{"a base that follows the segment before the last", segs(one, two, at(1, "x"))},
		{"a base that begins again", segs(one, two, at(0, "x"))},
		{"a newline alone", impl.State{Open: lines("\n")}},
		{"a newline at the end", impl.State{Open: lines("a\n")}},
		{"a newline in front", impl.State{Open: lines("\na")}},
		{"a newline in the last line", impl.State{Open: lines("a", "b", "", "a\nb")}},
		{"a newline behind a segment", impl.State{Segs: [][]byte{one}, Open: lines("x\ny", "")}},
		{"MaxLines + 1 open lines", impl.State{Open: make([][]byte, 1001)}},
		{"very many open lines", impl.State{Open: make([][]byte, 1000000)}},
		{"MaxLines + 1 lines, one of them sealed", impl.State{Segs: [][]byte{one}, Open: make([][]byte, 1000)}},
		{"MaxLines + 1 lines, one of them open", impl.State{Segs: [][]byte{many(0, 1000)}, Open: make([][]byte, 1)}},
		{"MaxLines + 1 lines in three parts", impl.State{Segs: [][]byte{many(0, 300), many(300, 400)}, Open: make([][]byte, 301)}},
		{"a segment behind MaxLines lines", segs(many(0, 1000), sealed('T', 'G', 232, 7, 1, 0, 0))},
		{"MaxBytes + 1 open bytes", impl.State{Open: lines(as(20001))}},
		{"MaxBytes + 1 open bytes in two lines", impl.State{Open: lines(as(10000), as(10001))}},
		{"very many open bytes", impl.State{Open: slices.Repeat(lines(as(20001)), 1000)}},
		{"MaxBytes + 1 bytes, one of them sealed", impl.State{Segs: [][]byte{at(0, "a")}, Open: lines(as(20000))}},
		{"MaxBytes + 1 bytes, one of them open", impl.State{Segs: [][]byte{at(0, as(20000))}, Open: lines("", "a")}},
		{"MaxBytes + 1 bytes in two segments", segs(at(0, as(10000)), at(1, as(10001)))},
		{"MaxBytes + 1 bytes in four parts", impl.State{Segs: [][]byte{at(0, as(5000)), at(1, as(5000)), at(2, as(5000))}, Open: lines(as(2500), as(2501))}},
		{"a corrupt segment and a newline", impl.State{Segs: [][]byte{nil}, Open: lines("\n")}},
	}
	for _, c := range append(changedSegments(t, 0), outerSegments()...) {
		if b := wantedEncoding(c.s); c.s.Base >= 0 {
			if _, ok := wantedDecoding(b); !ok {
				out = append(out, wrongState{c.name, segs(b)}, wrongState{c.name + ", behind another", segs(one, b)})
			}
		}
	}
	return out
}

func TestStepsOfWrongStates(t *testing.T) {
	texts := []string{"", "a", "\n", strings.Repeat("\n", 1001), strings.Repeat("a", 20001)}
	patterns := []string{"", "a", "(", "a{251}", strings.Repeat("a", 2001), "^.*a.{10}$"}
	for _, wrong := range wrongStates(t) {
		before := copyState(wrong.st)
		for _, text := range texts {
			checkIngest(t, wrong.name, wrong.st, text, impl.CodeBad, impl.State{})
		}
		if got, code := impl.Seal(wrong.st); code != impl.CodeBad || !sameState(got, impl.State{}) {
			t.Errorf("%s: Seal answers code %d, %.100q", wrong.name, code, got)
		}
		for _, k := range []int{0, 1, -1, 1000, math.MaxInt, math.MinInt} {
			checkMerge(t, wrong.name, wrong.st, k, impl.CodeBad, impl.State{})
		}
		for _, pattern := range patterns {
			if got := impl.Search(wrong.st, []byte(pattern)); !sameAnswer(got, impl.Answer{Code: impl.CodeBad}) {
				t.Errorf("%s: Search of %.20q answers %s", wrong.name, pattern, shown(got))
			}
		}
		if !sameState(wrong.st, before) {
			t.Errorf("%s: the state that was given is changed", wrong.name)
		}
	}
}

// One byte of a state's segment, or one of its lines, is changed: all four
// steps must tell whether what comes of it is still a store.
func TestStepsOfEachByteChanged(t *testing.T) {
	st := stateOf(t, "ab\n", "abc\nb", "abcd")
	for i, seg := range st.Segs {
		for at := range seg {
			for _, add := range []byte{1, 128, 255} {
				wrong := copyState(st)
				wrong.Segs[i][at] += add
				if _, ok := wantedDecoding(wrong.Segs[i]); ok {
					t.Fatal("the test is wrong")
				}
				if _, code := impl.Seal(wrong); code != impl.CodeBad {
					t.Errorf("segment %d, byte %d: Seal answers %d", i, at, code)
				}
				if got := impl.Search(wrong, nil); !sameAnswer(got, impl.Answer{Code: impl.CodeBad}) {
					t.Errorf("segment %d, byte %d: Search answers %v", i, at, got)
				}
			}
		}
	}
	for b := range 256 {
		st.Open[0][1] = byte(b)
		want := impl.CodeOK
		if b == 10 {
			want = impl.CodeBad
		}
		if _, code := impl.Ingest(st, nil); code != want {
			t.Errorf("the byte %d in an open line: code %d", b, code)
		}
	}
}

// States that meet the limits exactly are valid.
func TestStepsOfFullStates(t *testing.T) {
	as := func(n int) string { return strings.Repeat("a", n) }
	row := as(20) + "\n"
	states := []impl.State{
		stateOf(t, strings.Repeat("\n", 1000)),
		stateOf(t, "", strings.Repeat("\n", 1000)),
		stateOf(t, strings.Repeat("\n", 301), strings.Repeat("\n", 299), strings.Repeat("\n", 400)),
		stateOf(t, as(20000)),
		stateOf(t, "", as(20000)),
		stateOf(t, as(9999), as(5000), as(5001)),
		stateOf(t, strings.Repeat(row, 1000)),
		stateOf(t, strings.Repeat(row, 1), strings.Repeat(row, 500), strings.Repeat(row, 499)),
	}
	for i, st := range states {
		name := fmt.Sprintf("state %d", i)
		checkIngest(t, name, st, "", impl.CodeOK, st)
		checkIngest(t, name, st, "\na", impl.CodeFull, st)
		if _, code := impl.Seal(st); code != impl.CodeOK {
			t.Errorf("%s: Seal answers %d", name, code)
		}
		if _, code := impl.Merge(st, 0); (code == impl.CodeOK) != (len(st.Segs) > 1) {
			t.Errorf("%s: Merge answers %d", name, code)
		}
		count := len(st.Open)
		for _, b := range st.Segs {
			seg, _ := wantedDecoding(b)
			count += len(seg.Lines)
		}
		if got := impl.Search(st, []byte("^a*$")); !sameAnswer(got, seen(count, countUp(0, count)...)) {
			t.Errorf("%s: Search answers %s", name, shown(got))
		}
	}
}

// checkOwnState fails if two lists of a state share memory, or if it shares
// any with from. It spoils both.
func checkOwnState(t *testing.T, name string, st, from impl.State) {
	t.Helper()
	want := copyState(st)
	spoilState(from)
	if !sameState(st, want) {
		t.Errorf("%s: the answer shares memory with the argument", name)
	}
	checkOwnTexts(t, name, slices.Concat(st.Segs, st.Open))
}

func TestStepsAnswerNewMemory(t *testing.T) {
	fresh := func() impl.State { return stateOf(t, "abcd\n\nxy\nabc", "abc\nab", "xabc") }
	steps := []struct {
		name string
		do   func(st impl.State) (impl.State, int)
	}{
		{"Ingest", func(st impl.State) (impl.State, int) { return impl.Ingest(st, []byte("ghi\njkl\n")) }},
		{"Ingest of nothing", func(st impl.State) (impl.State, int) { return impl.Ingest(st, nil) }},
		{"Ingest that does not fit", func(st impl.State) (impl.State, int) { return impl.Ingest(st, make([]byte, 20001)) }},
		{"Seal", impl.Seal},
		{"Seal of nothing", func(st impl.State) (impl.State, int) { st.Open = nil; return impl.Seal(st) }},
		{"Merge", func(st impl.State) (impl.State, int) { return impl.Merge(st, 0) }},
		{"Merge out of range", func(st impl.State) (impl.State, int) { return impl.Merge(st, 1) }},
	}
	for _, step := range steps {
		st := fresh()
		got, _ := step.do(st)
		if !sameState(st, fresh()) {
			t.Errorf("%s: the argument was changed", step.name)
		}
		checkOwnState(t, step.name, got, st)
	}
	text := []byte("ghi\njkl")
	got, _ := impl.Ingest(fresh(), text)
	spoilText(text)
	if !sameTexts(got.Open[4:], lines("ghi", "jkl")) {
		t.Errorf("Ingest shares memory with its text: %q", got.Open)
	}
	// Room behind the lists that are given is none of the store's.
	roomy := fresh()
	roomy.Open = append(make([][]byte, 0, 100), roomy.Open...)
	roomy.Segs = append(make([][]byte, 0, 100), roomy.Segs...)
	impl.Ingest(roomy, []byte("z"))
	impl.Seal(roomy)
	impl.Merge(roomy, 0)
	if roomy.Open[:5][4] != nil || roomy.Segs[:3][2] != nil || !sameState(roomy, fresh()) {
		t.Error("a step wrote behind the lists of its state")
	}
}

// A state is a value: what one step answers does not change when another is
// taken from the same state.
func TestStepsFromOneState(t *testing.T) {
	st := stateOf(t, "abcd\n\nxy", "abc\nab", "xabc")
	first, _ := impl.Ingest(st, []byte("first"))
	second, _ := impl.Ingest(st, []byte("second"))
	third, _ := impl.Merge(st, 0)
	fourth, _ := impl.Seal(st)
	for i, c := range []struct{ got, want impl.State }{
		{first, stateOf(t, "abcd\n\nxy\nfirst", "abc\nab", "xabc")},
		{second, stateOf(t, "abcd\n\nxy\nsecond", "abc\nab", "xabc")},
		{third, stateOf(t, "abcd\n\nxy", "abc\nab\nxabc")},
		{fourth, stateOf(t, "", "abc\nab", "xabc", "abcd\n\nxy")},
	} {
		if !sameState(c.got, c.want) {
			t.Errorf("step %d: got %q", i, c.got)
		}
	}
}

func TestStepsOfRolledStates(t *testing.T) {
	d := dice{state: 61}
	for range 300 {
		var s slowStore
		st := impl.State{}
		for range 1 + d.below(25) {
			var code, want int
			switch d.below(4) {
			case 0, 1:
				text := bytes.Join(rollLines(&d, 4, 9), []byte("\n"))
				want = s.ingest(text)
				st, code = impl.Ingest(st, text)
			case 2:
				want = s.seal()
				st, code = impl.Seal(st)
			case 3:
				k := d.below(5) - 1
				want = s.merge(k)
				st, code = impl.Merge(st, k)
			}
			if code != want || !sameState(st, s.state(t)) {
				t.Fatalf("code %d, want %d, got %q, want %q", code, want, st, s.state(t))
			}
		}
	}
}
