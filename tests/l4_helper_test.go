package tests

import (
	"bytes"
	"math"
	"slices"
	"testing"

	"loop.example/s0027/impl"
)

func lines(texts ...string) [][]byte {
	var out [][]byte
	for _, text := range texts {
		out = append(out, []byte(text))
	}
	return out
}

func sameTexts(a, b [][]byte) bool {
	return slices.EqualFunc(a, b, bytes.Equal)
}

func copyTexts(texts [][]byte) [][]byte {
	var out [][]byte
	for _, text := range texts {
		out = append(out, slices.Clone(text))
	}
	return out
}

// spoilText overwrites a text up to its capacity.
func spoilText(text []byte) {
	full := text[:cap(text)]
	for i := range full {
		full[i] = '#'
	}
}

// checkOwnTexts fails if two texts of one answer share memory.
func checkOwnTexts(t *testing.T, name string, texts [][]byte) {
	t.Helper()
	before := copyTexts(texts)
	for i := range texts {
		spoilText(texts[i])
		if !sameTexts(texts[i+1:], before[i+1:]) {
			t.Errorf("%s: text %d is shared with a later one", name, i)
			return
		}
	}
}

func sameSegment(a, b impl.Segment) bool {
	return a.Base == b.Base && sameTexts(a.Lines, b.Lines) && slices.Equal(a.Keys, b.Keys) && sameLists(a.Posts, b.Posts)
}

func copySegment(s impl.Segment) impl.Segment {
	return impl.Segment{Base: s.Base, Lines: copyTexts(s.Lines), Keys: slices.Clone(s.Keys), Posts: copyLists(s.Posts)}
}

func isZeroSegment(s impl.Segment) bool {
	return sameSegment(s, impl.Segment{})
}

// spoilSegment overwrites all that a segment holds.
func spoilSegment(s impl.Segment) {
	for i := range s.Lines {
		spoilText(s.Lines[i])
		s.Lines[i] = nil
	}
	for i := range s.Posts {
		spoilList(s.Posts[i])
		s.Posts[i] = nil
	}
	spoilList(s.Keys)
}

// checkOwnSegment fails if two lists of one segment share memory. It spoils it.
func checkOwnSegment(t *testing.T, name string, s impl.Segment) {
	t.Helper()
	checkOwnLists(t, name, append(slices.Clone(s.Posts), s.Keys))
	checkOwnTexts(t, name, s.Lines)
}

func build(t *testing.T, base int, texts ...string) impl.Segment {
	t.Helper()
	return buildLines(t, base, lines(texts...))
}

func buildLines(t *testing.T, base int, texts [][]byte) impl.Segment {
	t.Helper()
	s, code := impl.BuildSegment(base, texts)
	if code != impl.CodeOK {
		t.Fatalf("%d lines at %d: code %d", len(texts), base, code)
	}
	return s
}

// wantedSegment makes the segment of section 4.2, and answers false where it is
// refused.
func wantedSegment(base int, texts [][]byte) (impl.Segment, bool) {
	if base < 0 || base > 1000 || len(texts) < 1 || base+len(texts) > 1000 {
		return impl.Segment{}, false
	}
	all := 0
	places := map[int][]int{}
	for i, text := range texts {
		all += len(text)
		if all > 20000 || bytes.Contains(text, []byte("\n")) {
			return impl.Segment{}, false
		}
		for _, n := range wantedTrigrams(text) {
			places[n] = append(places[n], base+i)
		}
	}
	s := impl.Segment{Base: base, Lines: texts}
	for n := range places {
		s.Keys = append(s.Keys, n)
	}
	slices.Sort(s.Keys)
	for _, n := range s.Keys {
		s.Posts = append(s.Posts, places[n])
	}
	return s, true
}

// sum is the checksum of section 4.3.
func sum(body []byte) uint64 {
	h := uint64(2166136261)
	for _, b := range body {
		h = (h ^ uint64(b)) * 16777619 % (1 << 32)
	}
	return h
}

// sealed puts the checksum behind a body.
func sealed(body ...byte) []byte {
	h := sum(body)
	return append(slices.Clone(body), byte(h/(1<<24)), byte(h/(1<<16)), byte(h/(1<<8)), byte(h))
}

func varint(n int) []byte {
	var out []byte
	for n > 127 {
		out, n = append(out, byte(128+n%128)), n/128
	}
	return append(out, byte(n))
}

// part is one thing of an encoded segment: a number, or bytes as they stand.
type part struct {
	number int
	bytes  []byte
}

func (p part) encoded() []byte {
	if p.bytes != nil {
		return p.bytes
	}
	return varint(p.number)
}

// partsOf goes through section 4.3, and does not ask whether s is valid.
func partsOf(s impl.Segment) []part {
	out := []part{{bytes: []byte("TG")}, {number: s.Base}, {number: len(s.Lines)}}
	for _, line := range s.Lines {
		out = append(out, part{number: len(line)}, part{bytes: append([]byte{}, line...)})
	}
	out = append(out, part{number: len(s.Keys)})
	lastKey := 0
	for j, key := range s.Keys {
		out = append(out, part{number: key - lastKey})
		lastKey = key
		if j >= len(s.Posts) {
			continue
		}
		out = append(out, part{number: len(s.Posts[j])})
		last := s.Base
		for _, x := range s.Posts[j] {
			out = append(out, part{number: x - last})
			last = x
		}
	}
	return out
}

func joinedParts(parts []part) []byte {
	var body []byte
	for _, p := range parts {
		body = append(body, p.encoded()...)
	}
	return body
}

func wantedEncoding(s impl.Segment) []byte {
	return sealed(joinedParts(partsOf(s))...)
}

// slowReader reads an encoded segment, as section 4.3 tells it, and stops at
// the first thing that is not as it must be.
type slowReader struct {
	rest []byte
	bad  bool
}

func (r *slowReader) bytes(n int) []byte {
	if r.bad || n > len(r.rest) {
		r.bad = true
		return nil
	}
	out := r.rest[:n:n]
	r.rest = r.rest[n:]
	return out
}

func (r *slowReader) varint() int {
	n, factor := 0.0, 1.0
	for {
		b := r.bytes(1)
		if r.bad {
			return 0
		}
		n, factor = n+float64(b[0]%128)*factor, factor*128
		if b[0] >= 128 {
			continue
		}
		// No number of an encoded segment is as great as this.
		r.bad = b[0] == 0 && factor > 128 || n > 100000000 || math.IsInf(factor, 0)
		if r.bad {
			return 0
		}
		return int(n)
	}
}

func (r *slowReader) numbers(count, last int) []int {
	var out []int
	for i := 0; i < count && !r.bad; i++ {
		last += r.varint()
		out = append(out, last)
	}
	return out
}

// wantedDecoding reads all of an encoded segment, and answers false if b is
// none.
func wantedDecoding(b []byte) (impl.Segment, bool) {
	if len(b) < 4 || !bytes.Equal(sealed(b[:len(b)-4]...), b) {
		return impl.Segment{}, false
	}
	r := slowReader{rest: b[:len(b)-4]}
	if string(r.bytes(2)) != "TG" {
		return impl.Segment{}, false
	}
	s := impl.Segment{Base: r.varint()}
	count := r.varint()
	for i := 0; i < count && !r.bad; i++ {
		s.Lines = append(s.Lines, r.bytes(r.varint()))
	}
	count = r.varint()
	key := 0
	for i := 0; i < count && !r.bad; i++ {
		key += r.varint()
		s.Keys = append(s.Keys, key)
		s.Posts = append(s.Posts, r.numbers(r.varint(), s.Base))
	}
	if r.bad || len(r.rest) > 0 {
		return impl.Segment{}, false
	}
	want, ok := wantedSegment(s.Base, s.Lines)
	if !ok || !sameSegment(s, want) {
		return impl.Segment{}, false
	}
	return s, true
}

// checkDecoding answers whether b is an encoded segment, and fails if
// DecodeSegment says otherwise.
func checkDecoding(t *testing.T, b []byte) bool {
	t.Helper()
	want, ok := wantedDecoding(b)
	got, code := impl.DecodeSegment(b)
	switch {
	case !ok && (code != impl.CodeCorrupt || !isZeroSegment(got)):
		t.Errorf("%.200v: no encoded segment, but code %d, %.200v", b, code, got)
	case ok && (code != impl.CodeOK || !sameSegment(got, want)):
		t.Errorf("%.200v: code %d, got %.200v, want %.200v", b, code, got, want)
	}
	return ok
}

// wantedCandidates goes through section 4.5.
func wantedCandidates(s impl.Segment, q impl.Query) []int {
	lists := func(number, x int) bool {
		for j := range min(len(s.Keys), len(s.Posts)) {
			if s.Keys[j] == number && slices.Contains(s.Posts[j], x) {
				return true
			}
		}
		return false
	}
	var out []int
	for i := range s.Lines {
		x := s.Base + i
		if slices.ContainsFunc(q.Clauses, func(clause []int) bool {
			return !slices.ContainsFunc(clause, func(n int) bool { return !lists(n, x) })
		}) {
			out = append(out, x)
		}
	}
	return out
}

// rollLines makes lines that are alike in many trigrams, short ones and empty
// ones among them.
func rollLines(d *dice, most, longest int) [][]byte {
	alphabet := "ab\x00\xffcd \r"[:1+d.below(8)]
	out := make([][]byte, 1+d.below(most))
	for i := range out {
		out[i] = make([]byte, d.below(longest+1))
		for j := range out[i] {
			out[i][j] = alphabet[d.below(len(alphabet))]
		}
	}
	return out
}

// changed is a segment that no building made, and what was done to it.
type changed struct {
	name string
	s    impl.Segment
}

// changedSegments answers segments that are all but one of BuildSegment's.
func changedSegments(t *testing.T, base int) []changed {
	t.Helper()
	var out []changed
	good := build(t, base, "abcd", "", "xabc", "bcd")
	change := func(name string, edit func(s *impl.Segment)) {
		s := copySegment(good)
		edit(&s)
		out = append(out, changed{name, s})
	}
	change("a base one less", func(s *impl.Segment) { s.Base-- })
	change("a base one more", func(s *impl.Segment) { s.Base++ })
	change("a base below 0", func(s *impl.Segment) { s.Base = -1 })
	change("a base too great", func(s *impl.Segment) { s.Base = impl.MaxLines - 3 })
	change("a base whose sum wraps", func(s *impl.Segment) { s.Base = math.MaxInt })
	change("no line", func(s *impl.Segment) { s.Lines = nil })
	change("a line less", func(s *impl.Segment) { s.Lines = s.Lines[:3] })
	change("a line more that has a key", func(s *impl.Segment) { s.Lines = append(s.Lines, []byte("abc")) })
	change("another line", func(s *impl.Segment) { s.Lines[0][1] = 'x' })
	change("lines in another order", func(s *impl.Segment) { s.Lines[0], s.Lines[2] = s.Lines[2], s.Lines[0] })
	change("a newline in a line", func(s *impl.Segment) { s.Lines[1] = []byte("\n") })
	change("a line too long", func(s *impl.Segment) { s.Lines[1] = make([]byte, impl.MaxBytes) })
	change("no keys", func(s *impl.Segment) { s.Keys = nil })
	change("no lists", func(s *impl.Segment) { s.Posts = nil })
	change("neither", func(s *impl.Segment) { s.Keys, s.Posts = nil, nil })
	change("a key less", func(s *impl.Segment) { s.Keys = s.Keys[:2] })
	change("a list less", func(s *impl.Segment) { s.Posts = s.Posts[:2] })
	change("a key and its list less", func(s *impl.Segment) { s.Keys, s.Posts = s.Keys[:2], s.Posts[:2] })
	change("the first key and its list less", func(s *impl.Segment) { s.Keys, s.Posts = s.Keys[1:], s.Posts[1:] })
	change("a key more", func(s *impl.Segment) { s.Keys = append(s.Keys, number("zzz")) })
	change("an empty list more", func(s *impl.Segment) { s.Posts = append(s.Posts, nil) })
	change("a key and an empty list more", func(s *impl.Segment) { s.Keys, s.Posts = append(s.Keys, number("zzz")), append(s.Posts, nil) })
	change("a key and a list more", func(s *impl.Segment) {
		s.Keys, s.Posts = append(s.Keys, number("zzz")), append(s.Posts, []int{base})
	})
	change("a key twice", func(s *impl.Segment) { s.Keys, s.Posts = append(s.Keys, s.Keys[2]), append(s.Posts, s.Posts[2]) })
	change("another key", func(s *impl.Segment) { s.Keys[2]++ })
	change("keys in another order", func(s *impl.Segment) {
		s.Keys[0], s.Keys[1] = s.Keys[1], s.Keys[0]
		s.Posts[0], s.Posts[1] = s.Posts[1], s.Posts[0]
	})
	change("lists in another order", func(s *impl.Segment) { s.Posts[0], s.Posts[1] = s.Posts[1], s.Posts[0] })
	change("positions in another order", func(s *impl.Segment) { slices.Reverse(s.Posts[0]) })
	change("a position twice", func(s *impl.Segment) { s.Posts[0] = append(s.Posts[0], s.Posts[0][1]) })
	change("a position less", func(s *impl.Segment) { s.Posts[0] = s.Posts[0][:1] })
	change("an empty list", func(s *impl.Segment) { s.Posts[2] = nil })
	change("a position not due", func(s *impl.Segment) { s.Posts[0] = []int{base, base + 1, base + 2} })
	change("a position behind the lines", func(s *impl.Segment) { s.Posts[0] = append(s.Posts[0], base+4) })
	change("another position", func(s *impl.Segment) { s.Posts[2][0]++ })
	change("positions from the first line on", func(s *impl.Segment) { s.Posts[0], s.Posts[1], s.Posts[2] = []int{0, 2}, []int{0, 3}, []int{2} })
	return append(out, outerSegments()...)
}

// outerSegments answers segments whose keys and lists are those of the lines,
// but whose base and lines BuildSegment refuses.
func outerSegments() []changed {
	aaa := []int{number("aaa")}
	long := bytes.Repeat([]byte("a"), impl.MaxBytes+1)
	return []changed{
		{"the zero segment", impl.Segment{}},
		{"no line at the end", impl.Segment{Base: impl.MaxLines}},
		{"a line below 0", impl.Segment{Base: -1, Lines: lines("")}},
		{"a line at MaxLines", impl.Segment{Base: impl.MaxLines, Lines: lines("")}},
		{"two lines at MaxLines - 1", impl.Segment{Base: impl.MaxLines - 1, Lines: lines("", "")}},
		{"MaxLines + 1 lines", impl.Segment{Lines: make([][]byte, impl.MaxLines+1)}},
		{"a line at the greatest base", impl.Segment{Base: math.MaxInt, Lines: lines("")}},
		{"a line at the least base", impl.Segment{Base: math.MinInt, Lines: lines("")}},
		{"a newline", impl.Segment{Lines: lines("a\nb"), Keys: []int{number("a\nb")}, Posts: [][]int{{0}}}},
		{"a newline alone", impl.Segment{Lines: lines("", "\n")}},
		{"MaxBytes + 1 bytes", impl.Segment{Lines: [][]byte{long}, Keys: aaa, Posts: [][]int{{0}}}},
		{"MaxBytes + 1 bytes in two lines", impl.Segment{Lines: [][]byte{long[:10001], long[:10000]}, Keys: aaa, Posts: [][]int{{0, 1}}}},
	}
}
