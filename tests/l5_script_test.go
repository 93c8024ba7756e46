package tests

import (
	"fmt"
	"slices"
	"strings"
	"testing"

	"loop.example/s0027/impl"
)

func TestScriptByHand(t *testing.T) {
	checkScript(t, []string{"+error 17~ok", "!", "+error 9", `?error \d+$`, "&0"},
		append(codes(0, 0, 0), seen(2, 0, 2), impl.Answer{Code: impl.CodeRange}))
	checkScript(t, []string{"?", "+", "?", "+~", "?", "+a~~b", "?^$", "?"},
		[]impl.Answer{seen(0), {}, seen(0), {}, seen(1, 0), {}, seen(4, 0, 2), seen(4, 0, 1, 2, 3)})
	checkScript(t, []string{"+a", "?(", "?a{251}", "?a", "?" + strings.Repeat("a", 2001)},
		[]impl.Answer{{}, {Code: impl.CodeSyntax}, {Code: impl.CodeLimit}, seen(1, 0), {Code: impl.CodeLimit}})
	checkScript(t, []string{"+b0123456789~a0123456789", "!", "?^.*a.{10}$", "?^.*a.{2}$"},
		[]impl.Answer{{}, {}, {Lines: []int{1}, Checked: 2, Road: impl.CodeBudget}, seen(2)})
	checkScript(t, []string{"+abc~ab~xabc", "?abc", "!", "?abc", "+abc", "?abc", "!", "?abc", "&0", "?abc", "&0"},
		[]impl.Answer{{}, seen(3, 0, 2), {}, seen(2, 0, 2), {}, seen(3, 0, 2, 3), {}, seen(3, 0, 2, 3), {}, seen(3, 0, 2, 3), {Code: impl.CodeRange}})
}

func TestScriptIsCutIntoCommands(t *testing.T) {
	cases := []struct {
		script string
		want   []impl.Answer
	}{
		{"", nil},
		{"\n", codes(4)},
		{"\n\n", codes(4, 4)},
		{"!", codes(0)},
		{"!\n", codes(0)},
		{"!\n\n", codes(0, 4)},
		{"\n!", codes(4, 0)},
		{"!\r\n", codes(4)},
		{"+a\r\n?^a\\r$", append(codes(0), seen(1, 0))},
		{"+a\n+b\n?", append(codes(0, 0), seen(2, 0, 1))},
		{"?a\nb", append([]impl.Answer{seen(0)}, codes(4)...)},
	}
	for _, c := range cases {
		if got := impl.RunScript([]byte(c.script)); !sameAnswers(got, c.want) {
			t.Errorf("%q: got %v, want %v", c.script, got, c.want)
		}
	}
	if got := impl.RunScript(nil); len(got) != 0 {
		t.Errorf("no text: %v", got)
	}
}

func TestScriptTildesAreNewlines(t *testing.T) {
	cases := []struct {
		command string
		want    []string
	}{
		{"+", nil},
		{"+a", []string{"a"}},
		{"+a~", []string{"a"}},
		{"+~", []string{""}},
		{"+~~", []string{"", ""}},
		{"+~a", []string{"", "a"}},
		{"+a~~b", []string{"a", "", "b"}},
		{"++", []string{"+"}},
		{"+ ", []string{" "}},
		{"+!~?~&0~", []string{"!", "?", "&0"}},
		{`+\~`, []string{`\`}},
		{"+\x00\xff~\x8a", []string{"\x00\xff", "\x8a"}},
	}
	for _, c := range cases {
		script := []string{c.command, "?"}
		want := []impl.Answer{{}, seen(len(c.want), countUp(0, len(c.want))...)}
		for i, line := range c.want {
			pattern := "^"
			for _, b := range []byte(line) {
				pattern += fmt.Sprintf(`\x%02x`, b)
			}
			var positions []int
			for j, other := range c.want {
				if other == c.want[i] {
					positions = append(positions, j)
				}
			}
			script, want = append(script, "?"+pattern+"$"), append(want, seen(len(c.want), positions...))
		}
		checkScript(t, script, want)
	}
	// In a pattern a tilde is a tilde, which no line of a script can hold.
	checkScript(t, []string{"+a~b", "?a~b", "?~"}, []impl.Answer{{}, seen(2), seen(2)})
	checkScript(t, []string{"+a~b", "!", "?a~b", "?[~]|a"}, []impl.Answer{{}, {}, seen(0), seen(2, 0)})
}

// A command that is not well formed answers CodeBad, and changes nothing.
func TestScriptCommandsThatAreNotWellFormed(t *testing.T) {
	wrong := []string{
		"", "x", "0", " ", "~", "\x00", "\xff", "\t!", " +a", "abc", "-1",
		"!!", "! ", "!0", "! !", "!\r", "!\x00", "!~",
		"&", "&12345", "&00000", "&00001", "&-1", "&+1", "&-0", "& 1", "&1 ", "& ", "&1a", "&a", "&1.", "&0x0", "&1_0", "&1\r", "&1&", "&&0", "&1,2", "&\xd9\xa1", "&~", "&/", "&:",
	}
	for _, command := range wrong {
		if isWellFormed(command) {
			t.Errorf("%q: the test is wrong", command)
		}
		checkScript(t, []string{command}, codes(4))
		checkScript(t, []string{"+abc~d", "!", "+e", "!", "+f", command, "?", "?abc", "&0", "?abc", command, "!", "&0", "&0"},
			[]impl.Answer{{}, {}, {}, {}, {}, {Code: 4}, seen(4, 0, 1, 2, 3), seen(2, 0), {}, seen(2, 0), {Code: 4}, {}, {}, {Code: 7}})
	}
	for b := range 256 {
		if command := string([]byte{byte(b)}); b != '\n' {
			want := impl.Answer{Code: impl.CodeBad}
			switch command {
			case "+", "!", "?":
				want = impl.Answer{}
			}
			checkScript(t, []string{command}, []impl.Answer{want})
			digit := impl.CodeBad
			if b >= '0' && b <= '9' {
				digit = impl.CodeRange
			}
			checkScript(t, []string{"&" + command, "&0" + command, "&" + command + "0", "&00" + command + "0"}, codes(digit, digit, digit, digit))
		}
	}
}

func TestScriptNumbersOfMerges(t *testing.T) {
	begin := []string{"+a", "!", "+b", "!", "+c", "!"}
	fine := codes(0, 0, 0, 0, 0, 0)
	for _, command := range []string{"&0", "&00", "&000", "&0000", "&1", "&01", "&001", "&0001"} {
		checkScript(t, append(slices.Clone(begin), command, "&1", "&0", "&0"), append(slices.Clone(fine), codes(0, 7, 0, 7)...))
	}
	for _, command := range []string{"&2", "&02", "&0002", "&3", "&9", "&10", "&100", "&1000", "&9999"} {
		checkScript(t, append(slices.Clone(begin), command, "&1", "&0", "&0"), append(slices.Clone(fine), codes(7, 0, 0, 7)...))
	}
	// With many segments, numbers of more than one digit are in range.
	var many []string
	for range 150 {
		many = append(many, "+a", "!")
	}
	many = append(many, "&149", "&148", "&148", "&147", "&99", "&099", "&010", "?a")
	checkScript(t, many, slowAnswers(many))
}

func TestScriptAtTheLimitOfCommands(t *testing.T) {
	for _, command := range []string{"!", "", "+", "?", "&0", "x"} {
		one := slowAnswers([]string{command})
		if got := impl.RunScript([]byte(strings.Repeat(command+"\n", 1000))); !sameAnswers(got, slices.Repeat(one, 1000)) {
			t.Errorf("1000 times %q: %d answers", command, len(got))
		}
		for _, count := range []int{1001, 1002, 100000} {
			if got := impl.RunScript([]byte(strings.Repeat(command+"\n", count))); !sameAnswers(got, codes(impl.CodeLimit)) {
				t.Errorf("%d times %q: %d answers", count, command, len(got))
			}
		}
	}
	if got := impl.RunScript([]byte(strings.Repeat("!\n", 999) + "!")); len(got) != 1000 {
		t.Errorf("1000 commands with no newline at the end: %d answers", len(got))
	}
	if got := impl.RunScript([]byte(strings.Repeat("!\n", 1000) + "!")); !sameAnswers(got, codes(impl.CodeLimit)) {
		t.Errorf("one more with no newline at the end: %d answers", len(got))
	}
	if got := impl.RunScript([]byte(strings.Repeat("\n", 1001))); !sameAnswers(got, codes(impl.CodeLimit)) {
		t.Errorf("1001 newlines: %d answers", len(got))
	}
}

func TestScriptOfFullStores(t *testing.T) {
	checkScript(t, []string{"+" + strings.Repeat("~", 999), "+~~", "+a~b", "+~", "+", "+~", "?^$", "!", "+a", "?^$", "?abc"},
		[]impl.Answer{{}, {Code: 6}, {Code: 6}, {}, {}, {Code: 6}, seen(1000, countUp(0, 1000)...), {}, {Code: 6}, seen(1000, countUp(0, 1000)...), seen(0)})
	row := strings.Repeat("a", 40)
	checkScript(t, []string{"+" + strings.Repeat(row+"~", 300), "!", "+" + strings.Repeat(row+"~", 199), "+" + strings.Repeat("b", 41), "+b~" + row, "+" + strings.Repeat("b", 40), "+c", "+~", "!", "+c", "&0", "?b", "?bbb"},
		[]impl.Answer{{}, {}, {}, {Code: 6}, {Code: 6}, {}, {Code: 6}, {}, {}, {Code: 6}, {}, seen(501, 499), seen(1, 499)})
	// As many segments as a script can make, and what is then left to do.
	var many []string
	for range 490 {
		many = append(many, "+error 17~ok", "!")
	}
	many = append(many, "?error", "&488", "&0", "&489", "?ok$", "+a", "?^a", "!", "&487", `?\d$`)
	checkScript(t, many, slowAnswers(many))
}

// Promise 15: every search of a script answers what the lines before it ask
// for.
func TestScriptOfRolledCommands(t *testing.T) {
	d := dice{state: 63}
	found, lost, far := 0, 0, 0
	for range 1500 {
		commands := rollScript(&d, 40)
		want := slowAnswers(commands)
		checkScript(t, commands, want)
		for i, answer := range want {
			found += len(answer.Lines)
			far += answer.Road
			if isSearch(commands[i]) && answer.Code == impl.CodeOK && answer.Checked == 0 {
				lost++
			}
		}
	}
	if found < 10000 || lost < 100 || far < 100 {
		t.Errorf("%d lines are found, %d searches look at none, %d go by pending sets", found, lost, far/impl.CodeBudget)
	}
}

// searchesOf answers the answers of the searches alone, with nothing of what
// the filter did.
func searchesOf(commands []string, answers []impl.Answer) []impl.Answer {
	var out []impl.Answer
	for i, answer := range answers {
		if isSearch(commands[i]) {
			answer.Checked = 0
			out = append(out, answer)
		}
	}
	return out
}

// Promise 16: Seal and Merge change no search.
func TestScriptWithOtherSealsAndMerges(t *testing.T) {
	d := dice{state: 64}
	asked, moved := 0, 0
	for range 800 {
		commands := rollScript(&d, 40)
		answers := run(commands)
		want := searchesOf(commands, answers)
		isStore := func(command string) bool { return command == "!" || mergeForm.MatchString(command) }
		without := slices.DeleteFunc(slices.Clone(commands), isStore)
		some := slices.DeleteFunc(slices.Clone(commands), func(command string) bool { return isStore(command) && d.below(2) == 0 })
		var more, each []string
		for _, command := range commands {
			each = append(each, "!", "&0", command)
			for range d.below(3) {
				more = append(more, []string{"!", "&0", "&1", "&2"}[d.below(4)])
			}
			more = append(more, command)
		}
		for _, other := range [][]string{without, some, more, each} {
			others := run(other)
			if got := searchesOf(other, others); !sameAnswers(got, want) {
				t.Fatalf("%q answers %v, but %q answers %v", commands, want, other, got)
			}
			if !sameAnswers(others, answers) {
				moved++
			}
		}
		asked += len(want)
	}
	if asked < 1000 || moved < 1000 {
		t.Errorf("%d searches, %d scripts that answer otherwise", asked, moved)
	}
}

// Promise 18: the four steps, one by one, answer what the script does, and
// leave the states of section 5.1.
func TestScriptStepByStep(t *testing.T) {
	d := dice{state: 65}
	for range 300 {
		commands := rollScript(&d, 30)
		got := run(commands)
		var st impl.State
		var slow slowStore
		for i, command := range commands {
			want := impl.Answer{Code: impl.CodeBad}
			if isWellFormed(command) {
				st, want = doStep(st, command)
			}
			slow.do(command)
			if !sameAnswer(got[i], want) {
				t.Fatalf("%q: answer %d is %v, step by step %v", commands, i, got[i], want)
			}
			if !sameState(st, slow.state(t)) {
				t.Fatalf("%q: after command %d the state is %q", commands, i, st)
			}
		}
	}
}

func TestScriptStepByStepAtTheLimits(t *testing.T) {
	rows := strings.Repeat(strings.Repeat("a", 20)+"~", 333)
	commands := []string{"+" + rows, "!", "+" + rows, "+" + rows, "+" + rows, "!", "+aaa", "+" + strings.Repeat("b", 20), "&0", "+~", "?b$", "!", "?b$", "&1", "&0", "?^a{20}$", "?^.*a.{19}$", "?("}
	got := run(commands)
	var st impl.State
	for i, command := range commands {
		var want impl.Answer
		st, want = doStep(st, command)
		if !sameAnswer(got[i], want) {
			t.Errorf("answer %d is %s, step by step %s", i, shown(got[i]), shown(want))
		}
	}
	if want := codes(0, 0, 0, 0, 6, 0, 0, 6, 0, 6); !sameAnswers(got[:10], want) {
		t.Errorf("got %v, want %v", got[:10], want)
	}
}

func TestScriptLeavesItsTextAlone(t *testing.T) {
	text := []byte("+abc~ab\n!\n?abc\n+abc\n?ab\n?ab\n")
	before := slices.Clone(text)
	got := impl.RunScript(text)
	if !slices.Equal(text, before) {
		t.Error("the text was changed")
	}
	want := []impl.Answer{{}, {}, seen(1, 0), {}, seen(3, 0, 1, 2), seen(3, 0, 1, 2)}
	spoilText(text)
	if !sameAnswers(got, want) {
		t.Errorf("got %v, want %v", got, want)
	}
	var lists [][]int
	for _, answer := range got {
		lists = append(lists, answer.Lines)
	}
	checkOwnLists(t, "RunScript", lists)
	// Nothing is kept from one script to the next.
	if got := impl.RunScript(before); !sameAnswers(got, want) {
		t.Errorf("the second time: %v", got)
	}
}

// Any bytes at all are a script.
func TestScriptOfRolledBytes(t *testing.T) {
	d := dice{state: 66}
	alphabet := "+!&?~\n\n\n0a(\\|*\xff"
	for range 20000 {
		text := make([]byte, d.below(60))
		for i := range text {
			text[i] = alphabet[d.below(len(alphabet))]
		}
		var commands []string
		for _, line := range wantedLines(text) {
			commands = append(commands, string(line))
		}
		if got, want := impl.RunScript(text), slowAnswers(commands); !sameAnswers(got, want) {
			t.Fatalf("%q: got %v, want %v", text, got, want)
		}
	}
}
