package tests

import (
	"bytes"
	"math"
	"slices"
	"testing"

	"loop.example/s0027/impl"
)

// The checksum is a known one; these are its known values.
func TestTheTestsOwnChecksum(t *testing.T) {
	for text, want := range map[string]uint64{"": 0x811c9dc5, "a": 0xe40c292c, "foobar": 0xbf9cf968} {
		if got := sum([]byte(text)); got != want {
			t.Errorf("%q: %x", text, got)
		}
	}
}

func TestEncodeByHand(t *testing.T) {
	cases := []struct {
		s    impl.Segment
		body []byte
	}{
		{build(t, 0, ""), []byte{84, 71, 0, 1, 0, 0}},
		{build(t, 0, "a"), []byte{84, 71, 0, 1, 1, 97, 0}},
		{build(t, 0, "ab"), []byte{84, 71, 0, 1, 2, 97, 98, 0}},
		{build(t, 127, "", "", ""), []byte{84, 71, 127, 3, 0, 0, 0, 0}},
		{build(t, 128, ""), []byte{84, 71, 128, 1, 1, 0, 0}},
		{build(t, 300, "", ""), []byte{84, 71, 172, 2, 2, 0, 0, 0}},
		{build(t, 999, ""), []byte{84, 71, 231, 7, 1, 0, 0}},
		{build(t, 5, "\x00\x00\x00"), []byte{84, 71, 5, 1, 3, 0, 0, 0, 1, 0, 1, 0}},
		{build(t, 5, "\x00\x00\x7f"), []byte{84, 71, 5, 1, 3, 0, 0, 127, 1, 127, 1, 0}},
		{build(t, 5, "\x00\x00\x80"), []byte{84, 71, 5, 1, 3, 0, 0, 128, 1, 128, 1, 1, 0}},
		{build(t, 5, "\x00\x01\x2c"), []byte{84, 71, 5, 1, 3, 0, 1, 44, 1, 172, 2, 1, 0}},
		{build(t, 5, "\x00\x00\x00", "\xff\xff\xff"), []byte{84, 71, 5, 2, 3, 0, 0, 0, 3, 255, 255, 255, 2, 0, 1, 0, 255, 255, 255, 7, 1, 1}},
		// abc is 6382179, as a varint 227, 196, 133, 3; abd is one more.
		{build(t, 5, "abc", "abc"), []byte{84, 71, 5, 2, 3, 97, 98, 99, 3, 97, 98, 99, 1, 227, 196, 133, 3, 2, 0, 1}},
		{build(t, 7, "abc", "abd", "", "abc"), []byte{84, 71, 7, 4, 3, 97, 98, 99, 3, 97, 98, 100, 0, 3, 97, 98, 99, 2, 227, 196, 133, 3, 2, 0, 3, 1, 1, 1}},
	}
	for _, c := range cases {
		want := sealed(c.body...)
		if got := impl.EncodeSegment(c.s); !slices.Equal(got, want) {
			t.Errorf("%v: got %v, want %v", c.s, got, want)
		}
		if !checkDecoding(t, want) {
			t.Errorf("%v: the test is wrong", want)
		}
	}
	// The whole of one, its checksum written out.
	if got := impl.EncodeSegment(build(t, 0, "ab")); !slices.Equal(got, []byte{84, 71, 0, 1, 2, 97, 98, 0, 181, 236, 129, 240}) {
		t.Errorf("got %v", got)
	}
}

// checkBothWays fails if a valid segment's encoded form is not as section 4.3
// tells it, or does not decode to the segment.
func checkBothWays(t *testing.T, name string, s impl.Segment) {
	t.Helper()
	before := copySegment(s)
	want := wantedEncoding(s)
	b := impl.EncodeSegment(s)
	if !slices.Equal(b, want) {
		t.Errorf("%s: encoded to %.200v, want %.200v", name, b, want)
	}
	got, code := impl.DecodeSegment(want)
	if code != impl.CodeOK || !sameSegment(got, before) {
		t.Errorf("%s: code %d, decoded to %.200v", name, code, got)
	}
	if again := impl.EncodeSegment(got); !slices.Equal(again, want) {
		t.Errorf("%s: encoded again to %.200v", name, again)
	}
	if !sameSegment(s, before) || !slices.Equal(want, wantedEncoding(before)) {
		t.Errorf("%s: an argument was changed", name)
	}
}

func TestEncodeOfVarintsOfAllLengths(t *testing.T) {
	for _, base := range []int{0, 1, 127, 128, 129, 255, 256, 300, 999} {
		checkBothWays(t, "a base", build(t, base, "abc"))
	}
	for _, count := range []int{1, 2, 127, 128, 129, 255, 256, 999, 1000} {
		texts := make([][]byte, count)
		checkBothWays(t, "lines", buildLines(t, 0, texts))
		// One key's positions are as many as the lines, or lie far apart.
		for i := range texts {
			texts[i] = []byte("abc")
		}
		checkBothWays(t, "positions", buildLines(t, 0, texts))
		for i := range texts[1 : count-1+count%2] {
			texts[i] = nil
		}
		checkBothWays(t, "positions apart", buildLines(t, 0, texts))
	}
	for _, size := range []int{0, 1, 2, 3, 127, 128, 129, 300, 16383, 16384, 16385, 20000} {
		text := make([]byte, size)
		checkBothWays(t, "one trigram", buildLines(t, 9, [][]byte{text}))
		for i := range text {
			text[i] = byte(11 + i*i/50%199)
		}
		checkBothWays(t, "many trigrams", buildLines(t, 9, [][]byte{text}))
	}
	for _, count := range []int{127, 128, 129, 16383, 16384} {
		s := buildLines(t, 0, [][]byte{differentTrigrams(count)})
		if len(s.Keys) != count {
			t.Fatalf("%d keys, not %d", len(s.Keys), count)
		}
		checkBothWays(t, "keys", s)
	}
	for shift := range 24 {
		for _, n := range []int{1<<shift - 1, 1 << shift, 1<<shift + 1} {
			text := []byte{byte(n >> 16), byte(n >> 8), byte(n)}
			if !bytes.Contains(text, []byte("\n")) {
				checkBothWays(t, "a key", buildLines(t, 0, [][]byte{text}))
				checkBothWays(t, "a second key", buildLines(t, 0, [][]byte{text, {0, 0, 1}}))
			}
		}
	}
}

// differentTrigrams answers a text in which no three bytes stand twice.
func differentTrigrams(count int) []byte {
	text := []byte{11, 11, 11}
	seen := map[[3]byte]bool{{11, 11, 11}: true}
	for len(text) < count+2 {
		n := len(text)
		// Among the 100 bytes that could follow, one leads on: no two bytes
		// have been met as often as that.
		for b := byte(110); b > 10; b-- {
			three := [3]byte{text[n-2], text[n-1], b}
			if !seen[three] {
				seen[three] = true
				text = append(text, b)
				break
			}
		}
		if len(text) == n {
			return text
		}
	}
	return text
}

func TestEncodeOfRolledSegments(t *testing.T) {
	d := dice{state: 53}
	for range 2000 {
		checkBothWays(t, "rolled", buildLines(t, d.below(impl.MaxLines-12), rollLines(&d, 12, 12)))
	}
	for range 5 {
		checkBothWays(t, "rolled, great", buildLines(t, 0, rollLines(&d, impl.MaxLines, 20)))
	}
}

func TestEncodeRefusesWhatNoBuildingMade(t *testing.T) {
	for _, c := range changedSegments(t, 5) {
		before := copySegment(c.s)
		if got := impl.EncodeSegment(c.s); len(got) != 0 {
			t.Errorf("%s: encoded to %.100v", c.name, got)
		}
		if !sameSegment(c.s, before) {
			t.Errorf("%s: the argument was changed", c.name)
		}
		checkDecoding(t, wantedEncoding(c.s))
	}
}

func TestEncodeAndDecodeAnswerNewMemory(t *testing.T) {
	s := build(t, 3, "abcd", "", "bcd", "abc")
	before := copySegment(s)
	b := impl.EncodeSegment(s)
	spoilSegment(s)
	if !slices.Equal(b, wantedEncoding(before)) {
		t.Error("the encoded form shares memory with the segment")
	}
	got, _ := impl.DecodeSegment(b)
	spoilText(b)
	if !sameSegment(got, before) {
		t.Error("the decoded segment shares memory with the bytes")
	}
	checkOwnSegment(t, "DecodeSegment", got)
}

// goodSegments answers valid segments that have every part of the form.
func goodSegments(t *testing.T) []impl.Segment {
	return []impl.Segment{
		build(t, 0, ""),
		build(t, 300, "ab", ""),
		build(t, 1, "abc"),
		build(t, 2, "abcd", "", "xabc", "bcd"),
		build(t, 130, "aaaa", "aaa", "\x00\x00\x00\x80"),
		build(t, 0, "\x80\x81\x82\x83", "\x82\x83\x84"),
	}
}

func TestDecodeOfEachPartChanged(t *testing.T) {
	for _, s := range goodSegments(t) {
		parts := partsOf(s)
		for i, p := range parts {
			change := func(b []byte) bool {
				t.Helper()
				return checkDecoding(t, sealed(slices.Concat(joinedParts(parts[:i]), b, joinedParts(parts[i+1:]))...))
			}
			if change(nil) && len(p.encoded()) > 0 {
				t.Errorf("%v: it is taken with no part %d", s, i)
			}
			if p.bytes != nil {
				continue
			}
			for _, n := range []int{p.number + 1, p.number - 1, p.number + 2, p.number + 127, p.number + 128, p.number + 1<<14, p.number + 1<<21, p.number + 1<<28, p.number + 1<<32, p.number + 1<<56, math.MaxInt} {
				// All positions are counted from the base, so another base is
				// another segment's.
				if n >= 0 && change(varint(n)) && i != 1 {
					t.Errorf("%v: part %d is taken as %d", s, i, n)
				}
			}
			for _, b := range longVarints(p.number) {
				change(b)
			}
			change(slices.Repeat(varint(p.number), 2))
		}
	}
}

// longVarints writes a number in more bytes than needed, and in numbers of more
// than 63 bits whose last bits are its own.
func longVarints(n int) [][]byte {
	var out [][]byte
	short := varint(n)
	short[len(short)-1] |= 128
	for zeros := range 12 {
		out = append(out, append(slices.Concat(short, bytes.Repeat([]byte{128}, zeros)), 0))
		for _, last := range []byte{1, 2, 64, 127} {
			out = append(out, append(slices.Concat(short, bytes.Repeat([]byte{128}, zeros)), last))
		}
	}
	return append(out, append(slices.Repeat([]byte{255}, 30), 0), append(slices.Repeat([]byte{128}, 30), 1), slices.Repeat([]byte{255}, 30))
}

func TestDecodeOfEachByteChanged(t *testing.T) {
	for _, s := range goodSegments(t) {
		whole := wantedEncoding(s)
		body := whole[:len(whole)-4]
		for i := range whole {
			for b := range 256 {
				other := slices.Clone(whole)
				other[i] = byte(b)
				if checkDecoding(t, other) && int(whole[i]) != b {
					t.Errorf("%v is taken", other)
				}
				if i < len(body) {
					checkDecoding(t, sealed(other[:len(body)]...))
					checkDecoding(t, sealed(slices.Insert(slices.Clone(body), i, byte(b))...))
				}
			}
		}
		for i := range whole {
			checkDecoding(t, whole[:i])
			checkDecoding(t, whole[i+1:])
			checkDecoding(t, append(slices.Clone(whole), whole[i]))
		}
		for i := range body {
			checkDecoding(t, sealed(body[:i]...))
			checkDecoding(t, sealed(body[i+1:]...))
			checkDecoding(t, sealed(slices.Delete(slices.Clone(body), i, i+1)...))
			checkDecoding(t, sealed(append(slices.Clone(body), body[i])...))
		}
		checkDecoding(t, slices.Concat(whole, whole))
		checkDecoding(t, sealed(whole...))
	}
}

// Every short body over bytes that matter, with a right checksum.
func TestDecodeOfEveryShortBody(t *testing.T) {
	taken := 0
	for length := range 7 {
		eachList([]byte{0, 1, 2, 3, 'a', '\n', 128, 231}, length, func(rest []byte) {
			if checkDecoding(t, sealed(append([]byte("TG"), rest...)...)) {
				taken++
			}
		})
	}
	if taken < 300 {
		t.Errorf("only %d are taken", taken)
	}
	for length := range 3 {
		eachList(countBytes(), length, func(b []byte) {
			if checkDecoding(t, b) {
				t.Errorf("%v is taken", b)
			}
		})
	}
	for length := range 5 {
		eachList([]byte{'T', 'G', 0, 1}, length, func(body []byte) { checkDecoding(t, sealed(body...)) })
	}
}

func countBytes() []byte {
	out := make([]byte, 256)
	for i := range out {
		out[i] = byte(i)
	}
	return out
}

func TestDecodeOfRolledBytes(t *testing.T) {
	d := dice{state: 54}
	taken := 0
	for range 20000 {
		body := joinedParts(partsOf(buildLines(t, d.below(200), rollLines(&d, 4, 6))))
		for range d.below(4) {
			at := d.below(len(body) + 1)
			switch d.below(4) {
			case 0:
				body = slices.Insert(body, at, byte(d.below(256)))
			case 1:
				body = slices.Delete(body, at, min(len(body), at+1+d.below(2)))
			case 2:
				body = slices.Insert(body, at, body[d.below(at+1):at]...)
			case 3:
				if at < len(body) {
					body[at] = byte(d.below(256))
				}
			}
		}
		if checkDecoding(t, sealed(body...)) {
			taken++
		}
	}
	if taken < 1000 || taken > 19000 {
		t.Errorf("%d are taken", taken)
	}
}

// Bytes that ask for far more than they hold.
func TestDecodeOfHostileBytes(t *testing.T) {
	great := []byte{255, 255, 255, 255, 255, 255, 255, 255, 127}
	ones := bytes.Repeat([]byte{255}, 2000000)
	zeros := make([]byte, 2000000)
	mark := []byte("TG")
	for _, body := range [][]byte{
		ones,
		zeros,
		slices.Concat(mark, ones),
		slices.Concat(mark, zeros),
		slices.Concat(mark, great, []byte{1, 0, 0}),
		slices.Concat(mark, []byte{0}, great),
		slices.Concat(mark, []byte{0}, great, zeros),
		slices.Concat(mark, []byte{0, 1}, great, zeros),
		slices.Concat(mark, []byte{0, 1}, varint(len(zeros)), zeros),
		slices.Concat(mark, []byte{0, 232, 7}, zeros),
		slices.Concat(mark, []byte{0, 1, 0}, great, zeros),
		slices.Concat(mark, []byte{0, 1, 3, 'a', 'b', 'c', 1, 227, 196, 133, 3}, great, zeros),
		slices.Concat(mark, []byte{0, 1, 3, 'a', 'b', 'c', 1}, great, []byte{1, 0}),
		slices.Concat(mark, []byte{0, 1, 3, 'a', 'b', 'c', 1, 227, 196, 133, 3, 1}, great),
	} {
		for _, b := range [][]byte{body, sealed(body...)} {
			if checkDecoding(t, b) {
				t.Errorf("%.100v is taken", b)
			}
		}
	}
	if got, code := impl.DecodeSegment(nil); code != impl.CodeCorrupt || !isZeroSegment(got) {
		t.Errorf("no bytes: code %d", code)
	}
}

// The limits of BuildSegment, met exactly and broken by one, in bytes with a
// right checksum.
func TestDecodeAtTheLimits(t *testing.T) {
	good := []impl.Segment{
		build(t, 999, ""),
		buildLines(t, 0, make([][]byte, impl.MaxLines)),
		buildLines(t, 1, make([][]byte, impl.MaxLines-1)),
		buildLines(t, 3, [][]byte{bytes.Repeat([]byte("a"), impl.MaxBytes)}),
		buildLines(t, 3, [][]byte{bytes.Repeat([]byte("a"), impl.MaxBytes-1), []byte("a")}),
	}
	for _, s := range good {
		if !checkDecoding(t, wantedEncoding(s)) {
			t.Errorf("%.100v: the test is wrong", s)
		}
	}
	for _, c := range outerSegments() {
		if c.s.Base >= 0 && checkDecoding(t, wantedEncoding(c.s)) {
			t.Errorf("%s: the test is wrong", c.name)
		}
	}
}
