package elide_test

import (
	"fmt"
	"reflect"
	"slices"
	"strings"
	"testing"

	"underwood/api"
	"underwood/elide"
	"underwood/sample"
	"underwood/spec"
)

func run(_ *testing.T, text string) api.Elided { return elide.Run(sample.Code(text)) }

// P10.1
func TestLess(t *testing.T) {
	for _, x := range []struct {
		a, b []int
		want bool
	}{
		{nil, nil, false}, {nil, []int{0}, true}, {[]int{0}, nil, false}, {[]int{0}, []int{1}, true}, {[]int{1}, []int{0, 5}, false},
		{[]int{0, 5}, []int{1}, true}, {[]int{1, 2}, []int{1, 2}, false}, {[]int{1}, []int{1, 0}, true}, {[]int{-1}, []int{0}, true},
	} {
		if elide.Less(x.a, x.b) != x.want {
			t.Error(x)
		}
	}
}

// P10.2, P10.3: the example.
func TestExample(t *testing.T) {
	e := run(t, "cell x; func f(a) { x = x + a; return 5; } func main() { x = 1; a = spawn f(2); return a + x; }")
	if e.Err != api.OK || e.Value != 8 || !slices.Equal(e.Cells, []int{3}) || e.Tasks != 2 || len(e.Fails) != 0 {
		t.Fatal(e)
	}
	use := func(strand int, task []int, kind, a, val int) api.Use {
		return api.Use{Strand: strand, Task: task, Op: api.Op{Kind: kind, A: a}, Val: val}
	}
	want := []api.Use{use(0, nil, 1, 1, 0), use(1, []int{0}, 0, 0, 1), use(1, []int{0}, 1, 3, 0), use(3, nil, 0, 0, 3)}
	if fmt.Sprint(e.Uses) != fmt.Sprint(want) {
		t.Error(e.Uses)
	}
	split := []api.Split{{Kind: api.SFork, A: 0, B: 1, C: 2, D: 3}, {Kind: api.SEnd, A: 1, D: 3}, {Kind: api.SJoin, A: 2, D: 3}}
	if !slices.Equal(e.Split, split) {
		t.Error(e.Split)
	}
	if e.Steps != 8+6 {
		t.Error("steps", e.Steps)
	}
}

// P10.3
func TestStrands(t *testing.T) {
	e := run(t, "func g() { } func f() { spawn g(); spawn g(); } func main() { spawn f(); sync; sync; spawn g(); }")
	want := []api.Split{
		{Kind: api.SFork, A: 0, B: 1, C: 2, D: 3},
		{Kind: api.SFork, A: 1, B: 4, C: 5, D: 6},
		{Kind: api.SEnd, A: 4, D: 6},
		{Kind: api.SFork, A: 5, B: 7, C: 8, D: 6},
		{Kind: api.SEnd, A: 7, D: 6},
		{Kind: api.SJoin, A: 8, D: 6},
		{Kind: api.SEnd, A: 6, D: 3},
		{Kind: api.SJoin, A: 2, D: 3},
		{Kind: api.SFork, A: 3, B: 9, C: 10, D: 11},
		{Kind: api.SEnd, A: 9, D: 11},
		{Kind: api.SJoin, A: 10, D: 11},
	}
	if !slices.Equal(e.Split, want) || e.Tasks != 5 {
		t.Error(e.Split)
	}
}

// P10.2: objects, and what their operations tell.
func TestObjects(t *testing.T) {
	e := run(t, `map m; stack s; chan c; chan d;
		func main() {
			a = m.put(7, 10); b = m.put(65543, 11); x = m.get(7); y = m.get(8); z = m.del(8);
			s.push(3); s.push(4); p = s.pop(); q = d.recv();
			c.send(5); c.send(6); r = c.recv();
			assert a == 1; assert b == 0; assert x == 11; assert y == 0; assert z == 0; assert p == 5; assert q == 0; assert r == 6;
			return 9;
		}`)
	if e.Err != api.OK || e.Value != 9 || len(e.Fails) != 0 || len(e.Uses) != 12 {
		t.Fatal(e)
	}
	if !reflect.DeepEqual(e.Maps, []api.Content{{Kind: api.KMap, Keys: []int{7}, Vals: []int{10}}}) || !slices.Equal(e.Stack[0].Vals, []int{3}) || !slices.Equal(e.Chans[0].Vals, []int{6}) || len(e.Chans) != 2 || len(e.Chans[1].Vals) != 0 || e.Chans[1].Kind != api.KChan {
		t.Error(e.Maps, e.Stack, e.Chans)
	}
	if u := e.Uses[1]; u.Thing != api.KMap || u.Op != (api.Op{Kind: api.OPut, A: 7, B: 11}) || u.Is || u.Val != 0 {
		t.Error(u)
	}
	if u := e.Uses[2]; !u.Is || u.Val != 10 {
		t.Error(u)
	}
	if u := e.Uses[8]; u.Thing != api.KChan || u.Obj != 1 || u.Is || u.Val != 0 {
		t.Error(u)
	}
}

func TestFails(t *testing.T) {
	e := run(t, "func g() { assert 0; } func f() { spawn g(); sync; spawn g(); } func main() { spawn g(); spawn f(); spawn g(); assert 0; }")
	if fmt.Sprint(e.Fails) != "[[] [0] [1 0] [1 1] [2]]" {
		t.Error(e.Fails)
	}
}

// P10.2: errors.
func TestErrors(t *testing.T) {
	many := func(n int) string { return strings.Repeat("spawn f();", n) }
	for text, want := range map[string]api.Errno{
		"func main() { while 1 { } }":                                                                                    api.ErrBudget,
		"func f() { while 1 { } } func main() { spawn f(); }":                                                            api.ErrBudget,
		"func f() { spawn f(); } func main() { spawn f(); }":                                                             api.ErrTasks,
		"func f() { } func main() { " + many(64) + "}":                                                                   api.ErrTasks,
		"func f() { } func main() { " + many(63) + "}":                                                                   api.OK,
		"func f(i) { } func main() { par f(0, 21); }":                                                                    api.OK,
		"func f(i) { } func main() { par f(0, 22); }":                                                                    api.ErrTasks,
		"stack s; func f() { " + "i = 0; while i < 90 { s.push(i); i = i + 1; }" + " } func main() { " + many(12) + "}":  api.ErrFull,
		"stack s; func f() { " + "i = 0; while i < 100 { s.push(i); i = i + 1; }" + " } func main() { " + many(10) + "}": api.OK,
		"stack s; chan c; func f() { " + "i = 0; while i < 100 { s.push(i); i = i + 1; }" + " } func main() { " + many(10) + " c.recv(); c.send(1); }": api.ErrFull,
	} {
		e := run(t, text)
		if e.Err != want || want != api.OK && !reflect.DeepEqual(e, api.Elided{Err: want}) {
			t.Errorf("%.60q: %v", text, e.Err)
		}
	}
	if e := elide.Run(api.Code{}); !reflect.DeepEqual(e, api.Elided{Err: api.ErrArg}) {
		t.Error(e)
	}
	deep := api.Code{Funs: []api.Body{{Ins: append(slices.Repeat([]api.Ins{{Op: api.IPush}}, 101), api.Ins{Op: api.IReturn})}}}
	if e := elide.Run(deep); e.Err != api.ErrArg {
		t.Error("a stack that is too deep", e.Err)
	}
}

// P10.4
func TestWhatFollows(t *testing.T) {
	a := run(t, "cell x = 2; func f(i) { x = x * 3 + i; return i * i; } func main() { spawn f(7); y = par f(1, 4); return y + x; }")
	b := run(t, "cell x = 2; func f(i) { x = x * 3 + i; return i * i; } func main() { spawn f(7); sync; y = par f(1, 4); sync; return y + x; }")
	if a.Value != 14+369 || a.Value != b.Value || !slices.Equal(a.Cells, b.Cells) {
		t.Error(a.Value, a.Cells, b.Value, b.Cells)
	}
	contents := map[[2]int]api.Content{}
	e := run(t, "map m; stack s; func f(i) { m.put(i, i); s.push(i); m.del(i - 1); return s.pop(); } func main() { par f(0, 6); return m.get(5); }")
	for _, u := range e.Uses {
		key := [2]int{u.Thing, u.Obj}
		if _, ok := contents[key]; !ok {
			contents[key] = spec.New(u.Thing)
		}
		c, val, is := spec.Do(contents[key], u.Op)
		if val != u.Val || is != u.Is {
			t.Error("a use tells what those ahead of it made", u)
		}
		contents[key] = c
	}
	if !reflect.DeepEqual(contents[[2]int{api.KMap, 0}], e.Maps[0]) || e.Value != 6 {
		t.Error(e.Maps, e.Value)
	}
}
