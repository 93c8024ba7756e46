package tests

import (
	"bytes"
	"fmt"
	"regexp"
	"slices"
	"strconv"
	"strings"
	"testing"

	"loop.example/s0027/impl"
)

func sameAnswer(a, b impl.Answer) bool {
	return a.Code == b.Code && a.Checked == b.Checked && a.Road == b.Road && slices.Equal(a.Lines, b.Lines)
}

func sameAnswers(a, b []impl.Answer) bool {
	return slices.EqualFunc(a, b, sameAnswer)
}

// shown is the beginning of what an answer says.
func shown(answer impl.Answer) string {
	return fmt.Sprintf("%.200s", fmt.Sprintf("%+v", answer))
}

func sameState(a, b impl.State) bool {
	return sameTexts(a.Segs, b.Segs) && sameTexts(a.Open, b.Open)
}

func copyState(st impl.State) impl.State {
	return impl.State{Segs: copyTexts(st.Segs), Open: copyTexts(st.Open)}
}

// spoilState overwrites all that a state holds.
func spoilState(st impl.State) {
	for _, texts := range [][][]byte{st.Segs, st.Open} {
		for i := range texts {
			spoilText(texts[i])
			texts[i] = nil
		}
	}
}

// codes answers one answer with nothing but a code for each code.
func codes(list ...int) []impl.Answer {
	var out []impl.Answer
	for _, code := range list {
		out = append(out, impl.Answer{Code: code})
	}
	return out
}

// seen is the answer of a search by the table.
func seen(checked int, positions ...int) impl.Answer {
	return impl.Answer{Lines: positions, Checked: checked}
}

// slowStore is the store in the words of section 5.1: all lines in one list,
// and how many of them each segment holds.
type slowStore struct {
	lines [][]byte
	segs  []int
}

func (s *slowStore) sealedCount() int {
	count := 0
	for _, n := range s.segs {
		count += n
	}
	return count
}

func (s *slowStore) ingest(text []byte) int {
	all := slices.Concat(s.lines, wantedLines(text))
	if len(all) > 1000 || len(bytes.Join(all, nil)) > 20000 {
		return impl.CodeFull
	}
	s.lines = all
	return impl.CodeOK
}

func (s *slowStore) seal() int {
	if open := len(s.lines) - s.sealedCount(); open > 0 {
		s.segs = append(slices.Clone(s.segs), open)
	}
	return impl.CodeOK
}

func (s *slowStore) merge(k int) int {
	if k < 0 || k > len(s.segs)-2 {
		return impl.CodeRange
	}
	s.segs = slices.Concat(s.segs[:k], []int{s.segs[k] + s.segs[k+1]}, s.segs[k+2:])
	return impl.CodeOK
}

func (s *slowStore) state(t *testing.T) impl.State {
	t.Helper()
	var st impl.State
	base := 0
	for _, n := range s.segs {
		seg, ok := wantedSegment(base, s.lines[base:base+n])
		if !ok {
			t.Fatalf("no segment of %d lines at %d", n, base)
		}
		st.Segs = append(st.Segs, wantedEncoding(seg))
		base += n
	}
	st.Open = copyTexts(s.lines[base:])
	return st
}

// slowPattern is what section 5.1 asks of a pattern's text.
type slowPattern struct {
	p     impl.Pattern
	code  int
	road  int
	query impl.Query
}

// slowPatterns keeps what was found out of a text, as the same ones come often.
var slowPatterns = map[string]slowPattern{}

func slowPatternOf(text string) slowPattern {
	if known, ok := slowPatterns[text]; ok {
		return known
	}
	var out slowPattern
	out.p, out.code = impl.ParsePattern([]byte(text))
	if out.code == impl.CodeOK {
		if countWaiting(wantedAuto(out.p), 1024) > 1024 {
			out.road = impl.CodeBudget
		}
		out.query.Clauses = wantedQuery(out.p.Tree)
	}
	slowPatterns[text] = out
	return out
}

// search goes line by line, none of which may have more than 60 bytes.
func (s *slowStore) search(text string) impl.Answer {
	pattern := slowPatternOf(text)
	if pattern.code != impl.CodeOK {
		return impl.Answer{Code: pattern.code}
	}
	out := impl.Answer{Road: pattern.road}
	count := s.sealedCount()
	for position, line := range s.lines {
		if position >= count || trueOf(pattern.query, wantedTrigrams(line)) {
			out.Checked++
		}
		if inLanguage(pattern.p, line) {
			out.Lines = append(out.Lines, position)
		}
	}
	return out
}

var mergeForm = regexp.MustCompile(`^&[0-9]{1,4}$`)

func isWellFormed(command string) bool {
	return command == "!" || mergeForm.MatchString(command) || strings.HasPrefix(command, "+") || strings.HasPrefix(command, "?")
}

func isSearch(command string) bool {
	return strings.HasPrefix(command, "?")
}

// do carries out one command of section 5.2.
func (s *slowStore) do(command string) impl.Answer {
	if !isWellFormed(command) {
		return impl.Answer{Code: impl.CodeBad}
	}
	rest := command[1:]
	switch command[0] {
	case '+':
		return impl.Answer{Code: s.ingest([]byte(strings.ReplaceAll(rest, "~", "\n")))}
	case '!':
		return impl.Answer{Code: s.seal()}
	case '&':
		k, _ := strconv.Atoi(rest)
		return impl.Answer{Code: s.merge(k)}
	}
	return s.search(rest)
}

// doStep carries out a well-formed command by the four steps.
func doStep(st impl.State, command string) (impl.State, impl.Answer) {
	rest := command[1:]
	var code int
	switch command[0] {
	case '+':
		st, code = impl.Ingest(st, []byte(strings.ReplaceAll(rest, "~", "\n")))
	case '!':
		st, code = impl.Seal(st)
	case '&':
		k, _ := strconv.Atoi(rest)
		st, code = impl.Merge(st, k)
	case '?':
		return st, impl.Search(st, []byte(rest))
	}
	return st, impl.Answer{Code: code}
}

func run(commands []string) []impl.Answer {
	script := ""
	for _, command := range commands {
		script += command + "\n"
	}
	return impl.RunScript([]byte(script))
}

func checkScript(t *testing.T, commands []string, want []impl.Answer) {
	t.Helper()
	got := run(commands)
	if len(got) != len(want) {
		t.Errorf("%.100q: %d answers, want %d", commands, len(got), len(want))
		return
	}
	for i := range got {
		if !sameAnswer(got[i], want[i]) {
			t.Errorf("%.300q: answer %d, of %.100q, is %s, want %s", commands, i, commands[i], shown(got[i]), shown(want[i]))
			return
		}
	}
}

func slowAnswers(commands []string) []impl.Answer {
	var s slowStore
	var out []impl.Answer
	for _, command := range commands {
		out = append(out, s.do(command))
	}
	return out
}

// wordsOfLogs are put together to lines and patterns that often meet.
var wordsOfLogs = []string{"error", "ok", "a", "ab", "abc", "17", "9", " ", " ", "warn", "er", "", "\x00\xff", "x-y", "\r"}

func rollLogLine(d *dice) string {
	out := ""
	for range d.below(6) {
		out += wordsOfLogs[d.below(len(wordsOfLogs))]
	}
	return out
}

func rollLogPattern(d *dice) string {
	parts := []string{"error", "er+or", `\d+`, "a?b", "abc|ok", "(a|b)c", ".", " *", `\w`, "[0-9]{1,2}", `\xff`, "[^a]", "(ok|warn)?", "x-y", "ab", "a", `\s`, "[]", "[^]"}
	out := ""
	for range d.below(4) {
		out += parts[d.below(len(parts))]
	}
	if d.below(4) == 0 {
		out = "^" + out
	}
	if d.below(4) == 0 {
		out += "$"
	}
	switch d.below(40) {
	case 0:
		return out + "("
	case 1:
		return "a{251}"
	case 2:
		return "^.*a.{10}$"
	case 3:
		return "^.*[ae].{10}$|error"
	}
	return out
}

// rollCommand makes a command; one in about fifteen is not well formed.
func rollCommand(d *dice) string {
	wrong := []string{"", "x", "!!", "! ", "&", "&12345", "&-1", "& 1", "&1 ", " !", "~", "-", "0"}
	switch n := d.below(15); {
	case n < 5:
		var texts []string
		for range d.below(4) {
			texts = append(texts, rollLogLine(d))
		}
		return "+" + strings.Join(texts, "~")
	case n < 7:
		return "!"
	case n < 9:
		return "&" + strings.Repeat("0", d.below(3)) + strconv.Itoa(d.below(6))
	case n < 14:
		return "?" + rollLogPattern(d)
	}
	return wrong[d.below(len(wrong))]
}

func rollScript(d *dice, most int) []string {
	var out []string
	for range d.below(most + 1) {
		out = append(out, rollCommand(d))
	}
	return out
}
