package tool_test

import (
	"fmt"
	"strings"
	"testing"

	"underwood/api"
	"underwood/bound"
	"underwood/elide"
	"underwood/parse"
	"underwood/run"
	"underwood/sample"
	"underwood/script"
	"underwood/tool"
	"underwood/trace"
)

// P36.1
func TestName(t *testing.T) {
	for i, want := range strings.Fields("ok argument bound form name twice type many full ring tasks budget wild race trace dead none") {
		if got := tool.Name(api.Errno(i)); got != want {
			t.Error(i, got)
		}
	}
	for _, e := range []api.Errno{-1, 17, 1 << 40} {
		if got := tool.Name(e); got != "?" {
			t.Error(e, got)
		}
	}
}

func lines(l ...string) string { return strings.Join(l, "\n") }

func check(t *testing.T, text string, want ...string) {
	t.Helper()
	got := tool.Run(text)
	if got != lines(append(want, "")...) {
		t.Errorf("%q:\n%s\nwant:\n%s", text, got, lines(want...))
	}
}

const seven = "func main() { return 7; }"

// P36.2
func TestExample(t *testing.T) {
	check(t, lines(seven, "%", "elide", "seats 1", "run", "same"), "value: 7", "tasks: 1", "run: 4 events, ok", "same: yes")
}

func TestPrograms(t *testing.T) {
	check(t, "", "program: name")
	check(t, "%", "program: name")
	check(t, "%\nelide", "program: name")
	check(t, "?\n%\nelide", "program: form")
	check(t, "func main() { x = y; }\n%\nelide", "program: name")
	check(t, "cell a; cell a; func main() { }", "program: twice")
	check(t, "func main() {"+strings.Repeat("sync;", 399)+"}", "program: bound")
	if got := tool.Run(seven + "\n"); got != "" {
		t.Error(got)
	}
	if got := tool.Run(seven + "\n%\n\n \t \n"); got != "" {
		t.Error(got)
	}
	check(t, "func main()\n{ return 7;\n}\n%\ntext\n%\n", "text: func main(){return 7;}", "what: %")
	check(t, seven+"\n %\n%\nelide", "program: form")
	// Each line has its end behind it, so the last one counts one byte more.
	long := strings.Repeat(" ", 4000-len(seven)-1) + seven
	if got := tool.Run(long); got != "" {
		t.Error(got)
	}
	check(t, " "+long, "program: bound")
	check(t, long+"\n", "program: bound")
}

func TestOtherWords(t *testing.T) {
	check(t, lines(seven, "%", "seats", "seats 0", "seats 9", "seats 1 2", "seats x", "seats -1", "seats 00000001", "most", "most 100001", "most 1 1", "most 12345678", "text 1", "elide now", "race\tx  y", "run run", "shape 1", "same 1", "judge 1", "trace 1", "bound 1", "Run", "?", "  what  is  ", "seats ٣", "run\r"),
		"what: seats", "what: seats 0", "what: seats 9", "what: seats 1 2", "what: seats x", "what: seats -1", "what: seats 00000001", "what: most", "what: most 100001", "what: most 1 1", "what: most 12345678", "what: text 1", "what: elide now", "what: race x y", "what: run run", "what: shape 1", "what: same 1", "what: judge 1", "what: trace 1", "what: bound 1", "what: Run", "what: ?", "what: what is", "what: seats ٣", "what: run\r")
}

func TestWithoutRun(t *testing.T) {
	check(t, lines(seven, "%", "shape", "same", "judge", "trace"), "shape: none", "same: none", "judge: none", "trace: none")
	for _, set := range []string{"seats 2", "most 9", "script 0", "script"} {
		check(t, lines(seven, "%", "seats 1", "run", "same", set, "same"), "run: 4 events, ok", "same: yes", "same: none")
	}
	for _, wrong := range []string{"seats 9", "most -1"} {
		check(t, lines(seven, "%", "seats 1", "run", wrong, "same"), "run: 4 events, ok", "what: "+wrong, "same: yes")
	}
	check(t, lines(seven, "%", "seats 1", "run", "script 9", "script 0x10001", "same"), "run: 4 events, ok", "script: form", "script: bound", "same: yes")
	check(t, lines(seven, "%", "seats 0000008", "most 3", "run", "shape", "same", "trace"), "run: 3 events, budget", "value: budget", "same: no", "trace: "+fmt.Sprint(size(t, 8, 3))+" bytes, yes")
	check(t, lines(seven, "%", "most 0", "run", "most 100000"), "run: 0 events, budget")
}

// size is how many bytes the trace of a run of seven has.
func size(t *testing.T, seats, most int) int {
	c := sample.Code(seven)
	s, err := run.Play(c, sample.Conf(c, seats), nil, most)
	if err != api.OK {
		t.Fatal(err)
	}
	return len(trace.Bytes(s.Events))
}

const many = `cell x = 4; map m; stack s; cell y; chan c; stack e; map n;
func f(k) { m.put(k, k + 1); s.push(k); c.send(k); x = k; assert k - 1; spawn g(k); }
func g(k) { assert k - 2; }
func main() { spawn f(1); sync; spawn f(2); sync; assert 0; y = 9; return x; }`

func TestShape(t *testing.T) {
	shape := []string{"value: 2", "cell x 2", "map m 1:2 2:3", "stack s 2 1", "cell y 9", "chan c 1 2", "stack e", "map n", "tasks: 5", "fails: . .0 .1.0"}
	got := tool.Run(many + "\n%\nelide\nrun\nshape\nsame\njudge\nrace\n")
	parts := strings.Split(got, "run: ")
	if len(parts) != 2 || parts[0] != lines(append(shape, "")...) || !strings.HasSuffix(parts[1], " events, ok\n"+lines(append(shape, "same: yes", "judge: yes yes yes", "race: none", "")...)) {
		t.Error(got)
	}
}

func TestFails(t *testing.T) {
	check(t, "func f() { assert 0; } func main() { x = 1; spawn f(); }\n%\nelide", "value: 0", "tasks: 2", "fails: .0")
	check(t, "func main() { assert 0; }\n%\nelide", "value: 0", "tasks: 1", "fails: .")
}

func TestRace(t *testing.T) {
	head := "cell a; map m; cell b; stack s; chan c; func f() { b = 1; m.put(5, 6); s.push(1); c.send(1); } func main() { spawn f(); "
	for text, want := range map[string]string{
		"b = 2; }":             "race: 0 4 cell b",
		"x = b; }":             "race: 0 4 cell b",
		"a = 2; }":             "race: none",
		"a = 2; m.del(5); }":   "race: 1 5 map m",
		"m.del(6); s.pop(); }": "race: 2 5 stack s",
		"c.recv(); b = 1; }":   "race: 3 4 chan c",
		"sync; b = 1; }":       "race: none",
	} {
		check(t, head+text+"\n%\nrace", want)
	}
}

func TestStuck(t *testing.T) {
	check(t, "func main() { while 1 { } }\n%\nelide\nrace\nrun\nbound\nshape\ntext", "value: budget", "race: budget", "run: budget", "bound: budget", "shape: none", "text: func main(){while 1{}}")
	check(t, "func f() { spawn f(); } func main() { spawn f(); }\n%\nelide\nrace\nrun\nbound\nsame", "value: tasks", "race: tasks", "run: tasks", "bound: tasks", "same: none")
	// More nodes than there may be: each push needs one, though as many are popped.
	full := "stack s; func f() { i = 0; while i < 90 { s.push(i); s.pop(); i = i + 1; } } func main() { " + strings.Repeat("spawn f(); sync; ", 12) + "}"
	check(t, full+"\n%\nseats 1\nrun\nsame", "run: full", "same: none")
}

func TestBound(t *testing.T) {
	text := "cell x; func f() { x = 1; y = x; } func main() { spawn f(); spawn f(); sync; x = 3; }"
	c := sample.Code(text)
	e := elide.Run(c)
	steps := func(seats, picks int) string {
		return fmt.Sprint("bound: ", bound.Steps(sample.Conf(c, seats), e, picks), " 5 3")
	}
	check(t, text+"\n%\nbound\nscript 0x5 1\nbound\nseats 3\nbound", steps(2, 0), steps(2, 6), steps(3, 6))
}

// P36.3
func TestWhatFollows(t *testing.T) {
	for i, text := range append(sample.Free(), sample.Racy()...) {
		for seed := range 4 {
			dice := sample.Dice(10*i + seed)
			picks := script.Text(sample.Picks(dice, 3, 60))
			got := tool.Run(lines(text, "%", "most 100000", "race", "seats 3", "script "+picks, "run", "same", "judge", "trace"))
			free := strings.HasPrefix(got, "race: none\n")
			if free != (i < len(sample.Free())) || free && !strings.Contains(got, "\nsame: yes\n") || !strings.Contains(got, "\njudge: yes yes yes\n") || !strings.HasSuffix(got, " bytes, yes\n") {
				t.Error(text, picks, got)
			}
		}
		p, _ := parse.Of(text)
		written := parse.Text(p)
		check(t, text+"\n%\ntext", "text: "+written)
		check(t, written+"\n%\ntext", "text: "+written)
	}
}
