package run_test

import (
	"reflect"
	"slices"
	"testing"

	"underwood/api"
	"underwood/elide"
	"underwood/elim"
	"underwood/lab"
	"underwood/layout"
	"underwood/mem"
	"underwood/obj"
	"underwood/point"
	"underwood/run"
	"underwood/sample"
	"underwood/script"
	"underwood/seat"
	"underwood/spec"
	"underwood/vm"
	"underwood/word"
)

const seven = "func main() { return 7; }"

func start(t *testing.T, text string, seats int) api.State {
	t.Helper()
	c := sample.Code(text)
	s, err := run.Start(c, sample.Conf(c, seats))
	if err != api.OK {
		t.Fatal(text, err)
	}
	return s
}

// P31.1
func TestStart(t *testing.T) {
	c := sample.Code("cell a = 4; cell b = 5; map m; stack s; chan c; func main() { a = b; }")
	conf := sample.Conf(c, 3)
	s, err := run.Start(c, conf)
	if err != api.OK {
		t.Fatal(err)
	}
	l, _ := layout.Of(conf)
	m, _, _ := mem.All(api.Mem{Cells: make([]int, l.Size)}, obj.Init(l))
	for cell, n := range map[int]int{
		l.Count: 1, layout.Alive(l, 0): 1, layout.Alive(l, 1): 1, layout.Alive(l, 2): 1, layout.Owner(l, 0): 0, layout.Owner(l, 1): 1, layout.Owner(l, 2): 2,
		layout.Task(l, 1, 0): 2, layout.Task(l, 1, 1): 1, layout.Cell(l, 0): 4, layout.Cell(l, 1): 5,
	} {
		m.Cells[cell] = n
	}
	f, _ := vm.Start(c, 0, nil, 1, nil)
	first, f, _ := seat.Go(c, api.Seat{Task: 1}, f)
	want := api.State{
		Layout: l, Code: c, Mem: m, Sits: []int{0, 1, 2}, Frames: []api.Frame{f}, Alive: []bool{true, true, true},
		Seats: []api.Seat{first, {Op: api.Op{Kind: api.OPopD, Obj: 1}}, {Op: api.Op{Kind: api.OPopD, Obj: 2}}},
	}
	if !reflect.DeepEqual(s, want) {
		t.Errorf("%+v\n%+v", s, want)
	}
	for i, turn := range []func(conf *api.Conf){
		func(x *api.Conf) { x.Cells++ }, func(x *api.Conf) { x.Maps-- }, func(x *api.Conf) { x.Stacks++ }, func(x *api.Conf) { x.Chans-- }, func(x *api.Conf) { x.Seats = 9 }, func(x *api.Conf) { x.Buckets = 3 },
	} {
		wrong := conf
		turn(&wrong)
		if s, err := run.Start(c, wrong); err != api.ErrArg || !reflect.DeepEqual(s, api.State{}) {
			t.Error(i, err)
		}
	}
	if s, err := run.Start(api.Code{}, conf); err != api.ErrArg || !reflect.DeepEqual(s, api.State{}) {
		t.Error("a code that is not right", err)
	}
	s = start1(t, api.Code{Funs: []api.Body{{Ins: []api.Ins{{Op: api.IJump}}}}})
	if !s.Over || s.Err != api.ErrBudget || !reflect.DeepEqual(s.Seats[0], api.Seat{Task: 1}) || s.Frames[0].Spent != 0 {
		t.Error("a main task that never asks", s.Err)
	}
}

func start1(t *testing.T, c api.Code) api.State {
	t.Helper()
	s, err := run.Start(c, api.Conf{Seats: 1, Buckets: 1, Slots: 1, Tasks: 1})
	if err != api.OK {
		t.Fatal(err)
	}
	return s
}

// texts are the accesses of events.
func texts(s api.State, from int) []string {
	var l []string
	for _, e := range s.Events[from:] {
		l = append(l, lab.Text(s.Layout, e.Access, e.Result))
	}
	return l
}

// P31.2, P31.4: the example.
func TestSeven(t *testing.T) {
	c := sample.Code(seven)
	s, err := run.Play(c, sample.Conf(c, 1), nil, 100)
	want := []string{"store task1.2 7", "store task1.0 3", "load task1.3", "store done 1"}
	if err != api.OK || !s.Over || s.Err != api.OK || s.Value != 7 || !slices.Equal(texts(s, 0), want) {
		t.Error(texts(s, 0), s.Err, s.Value)
	}
	for most, over := range map[int]bool{0: false, 3: false, 4: true, 5: true} {
		s, err := run.Play(c, sample.Conf(c, 1), nil, most)
		if err != api.OK || !s.Over || (s.Err == api.OK) != over || !over && s.Err != api.ErrBudget || len(s.Events) != min(most, 4) {
			t.Error(most, len(s.Events), s.Err)
		}
	}
}

// P31.2: an operation of an object, and what its call tells.
func TestCalls(t *testing.T) {
	s := start(t, "stack s; func main() { s.push(4); x = s.pop(); s.pop(); }", 1)
	for !s.Over {
		s = run.Step(s, 0)
	}
	want := []api.Call{
		{Op: api.Op{Kind: api.OPush, A: 4}, Is: true, First: 0, Last: 8, Point: 8},
		{Op: api.Op{Kind: api.OPop}, Val: 4, Is: true, First: 9, Last: 19, Point: 15},
		{Op: api.Op{Kind: api.OPop}, First: 20, Last: 25, Point: 23},
	}
	if !slices.Equal(s.Calls, want) {
		t.Errorf("%+v", s.Calls)
	}
}

// P31.2: a step makes one access, and nothing that was handed in is written into.
func TestStep(t *testing.T) {
	s := start(t, "cell x; func f() { x = x + 1; } func main() { spawn f(); sync; return x; }", 2)
	for i := 0; !s.Over; i++ {
		var was api.State = deep(s)
		on := run.Step(s, i%2)
		again := run.Step(s, i%2)
		other := run.Step(s, 1-i%2)
		if len(on.Events) != len(s.Events)+1 || !reflect.DeepEqual(s, was) || !reflect.DeepEqual(on, again) {
			t.Fatal(i, "a step")
		}
		kept := deep(on)
		run.Step(other, i%2)
		run.Step(on, 0)
		run.Step(on, 1)
		if !reflect.DeepEqual(on, kept) {
			t.Fatal(i, "a later step is seen")
		}
		e := on.Events[len(s.Events)]
		m, told, err := mem.Do(s.Mem, e.Access)
		if err != api.OK || told != e.Result || !mem.Same(m, on.Mem) || e.Worker != i%2 || e.Seat != s.Sits[i%2] {
			t.Fatal(i, e)
		}
		s = on
	}
	for _, w := range []int{0, 1} {
		if !reflect.DeepEqual(run.Step(s, w), s) || !reflect.DeepEqual(run.Die(s, w), s) {
			t.Error("what is over")
		}
	}
	s = start(t, seven, 2)
	for _, w := range []int{-1, 2, 99} {
		if !reflect.DeepEqual(run.Step(s, w), s) || !reflect.DeepEqual(run.Die(s, w), s) {
			t.Error("no such worker")
		}
	}
}

// What is handed in isn't written into, though there be room behind it.
func TestRoom(t *testing.T) {
	s := start(t, "stack s; func main() { s.push(1); s.push(2); }", 2)
	for range 9 {
		s = run.Step(s, 0)
	}
	events, calls := make([]api.Event, len(s.Events), 50), make([]api.Call, len(s.Calls), 50)
	copy(events, s.Events)
	copy(calls, s.Calls)
	log, steps := make([]api.Result, 0, 50), make([]int, 0, 50)
	s.Events, s.Calls = events, calls
	s.Seats[0].Log, s.Seats[0].Steps = log, steps
	for range 9 {
		s = run.Step(s, 0)
	}
	s = run.Die(s, 1)
	if len(s.Calls) != 2 || len(s.Events) != 19 {
		t.Error(s.Calls)
	}
	if events[:50][9] != (api.Event{}) || calls[:50][1] != (api.Call{}) || log[:50][0] != (api.Result{}) || steps[:50][0] != 0 {
		t.Error("written into")
	}
}

// deep is a copy that shares nothing that steps turn.
func deep(s api.State) api.State {
	s.Mem.Cells = slices.Clone(s.Mem.Cells)
	s.Seats, s.Sits, s.Frames, s.Alive = slices.Clone(s.Seats), slices.Clone(s.Sits), slices.Clone(s.Frames), slices.Clone(s.Alive)
	s.Events, s.Calls = slices.Clone(s.Events), slices.Clone(s.Calls)
	for i := range s.Seats {
		s.Seats[i].Log, s.Seats[i].Steps = slices.Clone(s.Seats[i].Log), slices.Clone(s.Seats[i].Steps)
	}
	return s
}

// P31.2: an access that can't be ends it.
func TestStepWild(t *testing.T) {
	s := start(t, "cell x; func main() { return x; }", 1)
	s.Mem.Cells = s.Mem.Cells[:3]
	on := run.Step(s, 0)
	if !on.Over || on.Err != api.ErrWild || len(on.Events) != 0 || !reflect.DeepEqual(on.Seats, s.Seats) {
		t.Error(on.Err, on.Events)
	}
}

// P31.3
func TestDie(t *testing.T) {
	s := start(t, seven, 3)
	on := run.Die(s, 1)
	if on.Alive[1] || !on.Alive[0] || on.Mem.Cells[layout.Alive(s.Layout, 1)] != 0 || !slices.Equal(on.Events, []api.Event{{Worker: 1, Seat: 1}}) || !s.Alive[1] || s.Mem.Cells[layout.Alive(s.Layout, 1)] != 1 {
		t.Error(on.Alive, on.Events)
	}
	if !reflect.DeepEqual(run.Die(on, 1), on) || !reflect.DeepEqual(run.Step(on, 1), on) {
		t.Error("who is dead")
	}
	on = run.Die(on, 2)
	if len(on.Events) != 2 || !reflect.DeepEqual(run.Die(on, 0), on) {
		t.Error("the last one")
	}
}

// P31.2: who sits down where one died goes on there, and begins anew what was to sit down elsewhere.
func TestAdopt(t *testing.T) {
	s := start(t, "cell x; func main() { x = 1; x = 2; return x; }", 3)
	do := func(l ...string) {
		t.Helper()
		n := len(s.Events) - len(l)
		if got := texts(s, n); !slices.Equal(got, l) {
			t.Fatal(got)
		}
	}
	s = run.Step(s, 0)
	do("store cell0 1")
	s = run.Die(s, 0)
	// Worker 1: its own deque, two others', then the seat 2, then the seat 0.
	for range 4 + 2 + 2 + 2 {
		s = run.Step(s, 1)
	}
	do("load deque1.1", "store deque1.1 -1", "load deque1.0", "store deque1.1 0", "load deque2.0", "load deque2.1", "load deque0.0", "load deque0.1", "load owner2", "load alive2")
	if s.Seats[1].Op != (api.Op{Kind: api.OAdopt, A: 0, B: 1}) {
		t.Fatal(s.Seats[1])
	}
	s = run.Step(s, 1) // it has begun that, and dies
	s = run.Die(s, 1)
	for range 4 + 2 + 2 {
		s = run.Step(s, 2)
	}
	if s.Seats[2].Op != (api.Op{Kind: api.OAdopt, A: 0, B: 2}) {
		t.Fatal(s.Seats[2])
	}
	for range 3 {
		s = run.Step(s, 2)
	}
	do("load owner0", "load alive0", "cas owner0 0 2")
	if s.Sits[2] != 0 || s.Mem.Cells[layout.Owner(s.Layout, 0)] != 2 || s.Seats[2].Op.Kind != api.OPopD {
		t.Fatal(s.Sits)
	}
	for !s.Over {
		s = run.Step(s, 2)
	}
	if s.Err != api.OK || s.Value != 2 || s.Events[len(s.Events)-1].Seat != 0 {
		t.Error(s.Err, s.Value)
	}
	// An adoption that was begun by a dead worker is begun anew.
	s = start(t, "cell x; func main() { x = 1; return x; }", 3)
	s.Seats[0] = api.Seat{Op: api.Op{Kind: api.OAdopt, A: 1, B: 2}, Log: []api.Result{{Val: 1, Ok: true}}, Steps: []int{0}}
	s = run.Step(s, 0)
	if s.Seats[0].Op.B != 0 || len(s.Seats[0].Log) != 1 || !slices.Equal(texts(s, 0), []string{"load owner1"}) {
		t.Error(s.Seats[0], texts(s, 0))
	}
}

// A worker that dies behind a steal, ahead of its claim: whoever sits down there claims.
func TestClaimOfDead(t *testing.T) {
	s := start(t, "cell x; func f() { x = 5; return 6; } func main() { a = spawn f(); return a + x; }", 2)
	for range 10 {
		s = run.Step(s, 0) // makes the task 2, and pushes it
	}
	for range 4 + 5 {
		s = run.Step(s, 1) // finds nothing of its own, and steals it
	}
	if s.Seats[1].Phase != api.HClaim || s.Seats[1].Task != 2 {
		t.Fatal(s.Seats[1])
	}
	s = run.Die(s, 1)
	for i := 0; !s.Over && i < 1000; i++ {
		s = run.Step(s, 0)
	}
	claims := slices.DeleteFunc(slices.Clone(s.Events), func(e api.Event) bool {
		return e.Access.Kind != api.ACas || e.Access.Cell != layout.Task(s.Layout, 2, 0)
	})
	if s.Err != api.OK || s.Value != 11 || len(claims) != 1 || claims[0].Worker != 0 || claims[0].Seat != 1 || !claims[0].Result.Ok {
		t.Error(s.Err, s.Value, claims)
	}
}

// P31.4
func TestPlay(t *testing.T) {
	c := sample.Code("cell x; func f() { x = x + 1; } func main() { spawn f(); sync; return x; }")
	conf := sample.Conf(c, 3)
	for _, most := range []int{-1, api.MaxStep + 1} {
		if s, err := run.Play(c, conf, nil, most); err != api.ErrArg || !reflect.DeepEqual(s, api.State{}) {
			t.Error(most, err)
		}
	}
	if s, err := run.Play(c, conf, nil, api.MaxStep); err != api.OK || s.Err != api.OK || s.Value != 1 {
		t.Error("as many steps as there may be", err, s.Err)
	}
	if s, _ := run.Play(c, conf, []api.Pick{{Kind: api.PStep, A: 2}}, 3); len(s.Events) != 3 || s.Events[0].Worker != 2 || s.Events[1].Worker != 0 || s.Events[2].Worker != 1 {
		t.Error("turns behind the last pick", s.Events)
	}
	if s, err := run.Play(c, api.Conf{}, nil, 5); err != api.ErrArg || !reflect.DeepEqual(s, api.State{}) {
		t.Error(err)
	}
	l, _ := script.Parse("0x3 1~4 2x2 1x2 0x2 1! 2 0! 7 2x3 2!")
	s, err := run.Play(c, conf, l, 1000)
	want, _ := run.Start(c, conf)
	for _, p := range script.Plain(3, l) {
		if p.Kind == api.PDie {
			want = run.Die(want, p.A)
		} else {
			want = run.Step(want, p.A)
		}
	}
	last := -1
	for !want.Over {
		last = script.Next(want.Alive, last)
		want = run.Step(want, last)
	}
	if err != api.OK || !reflect.DeepEqual(s, want) {
		t.Error(err, s.Events, want.Events)
	}
}

// P31.5
func TestShape(t *testing.T) {
	text := "cell x; map m; stack s; chan c; func f(a) { m.put(a, a + 1); s.push(a); c.send(a + 5); x = 9; assert a; } func main() { spawn f(3); sync; spawn f(0); sync; assert 0; return 12; }"
	c := sample.Code(text)
	s, _ := run.Play(c, sample.Conf(c, 2), nil, 10000)
	got := run.Shape(s)
	want := api.Shape{
		Value: 12, Cells: []int{9}, Maps: []api.Content{{Kind: api.KMap, Keys: []int{0, 3}, Vals: []int{1, 4}}}, Stack: []api.Content{{Kind: api.KStack, Vals: []int{0, 3}}},
		Chans: []api.Content{{Kind: api.KChan, Vals: []int{8, 5}}}, Tasks: 3, Fails: [][]int{{}, {1}},
	}
	if !run.Same(got, want) || !run.Same(want, got) || !run.Same(got, run.Of(elide.Run(c))) {
		t.Error(got)
	}
	for i, turn := range []func(x *api.Shape){
		func(x *api.Shape) { x.Err = 1 }, func(x *api.Shape) { x.Value++ }, func(x *api.Shape) { x.Cells = nil }, func(x *api.Shape) { x.Cells = []int{8} }, func(x *api.Shape) { x.Tasks++ },
		func(x *api.Shape) { x.Maps = []api.Content{{Kind: api.KMap, Keys: []int{0, 4}, Vals: []int{1, 4}}} }, func(x *api.Shape) { x.Maps = []api.Content{{Kind: api.KMap, Keys: []int{0, 3}, Vals: []int{1, 5}}} },
		func(x *api.Shape) { x.Stack = nil }, func(x *api.Shape) { x.Stack = []api.Content{{Kind: api.KChan, Vals: []int{0, 3}}} }, func(x *api.Shape) { x.Chans = []api.Content{{Kind: api.KChan, Vals: []int{5, 8}}} },
		func(x *api.Shape) { x.Fails = [][]int{{}} }, func(x *api.Shape) { x.Fails = [][]int{{}, {1, 0}} },
	} {
		other := want
		turn(&other)
		if run.Same(got, other) || run.Same(other, got) {
			t.Error(i)
		}
	}
	s.Over = false
	if got := run.Shape(s); !reflect.DeepEqual(got, api.Shape{Err: api.ErrBudget}) {
		t.Error(got)
	}
	s.Over, s.Err = true, api.ErrFull
	if got := run.Shape(s); !reflect.DeepEqual(got, api.Shape{Err: api.ErrFull}) {
		t.Error(got)
	}
	if got := run.Of(api.Elided{Err: api.ErrTasks, Value: 4, Tasks: 3}); !reflect.DeepEqual(got, api.Shape{Err: api.ErrTasks}) {
		t.Error(got)
	}
}

// P31.6: where a program has no race, a run has its elision's shape, whatever the script; and in any run objects explain what was told.
func TestScripts(t *testing.T) {
	for i, text := range slices.Concat(sample.Free(), sample.Racy()) {
		c := sample.Code(text)
		want := run.Of(elide.Run(c))
		for seed := range 25 {
			dice := sample.Dice(1000*i + seed)
			seats := 1 + dice(5)
			s, err := run.Play(c, sample.Conf(c, seats), sample.Picks(dice, seats, 30*dice(30)), 100000)
			if err != api.OK || !s.Over || s.Err != api.OK {
				t.Fatal(text, seed, err, s.Err)
			}
			if n := objectUses(c); i < len(sample.Free()) && len(s.Calls) != n {
				t.Fatal(text, seed, "calls", len(s.Calls), n)
			}
			if i < len(sample.Free()) && !run.Same(run.Shape(s), want) {
				t.Fatal(text, seed, run.Shape(s), want)
			}
			whole(t, s)
		}
	}
}

// objectUses is how many operations of objects a code's elision has.
func objectUses(c api.Code) int {
	n := 0
	for _, u := range elide.Run(c).Uses {
		if u.Thing != api.KCell {
			n++
		}
	}
	return n
}

// P31.2: an operation that ends the run is called, too.
func TestFull(t *testing.T) {
	c := sample.Code("stack s; cell x; func main() { x = 2; s.push(1); }")
	conf := sample.Conf(c, 1)
	conf.Nodes = 0
	s, err := run.Play(c, conf, nil, 100)
	want := []api.Call{{Op: api.Op{Kind: api.OPush, A: 1}, First: 1, Last: 1, Point: 1}}
	if err != api.OK || !s.Over || s.Err != api.ErrFull || !slices.Equal(s.Calls, want) || !slices.Equal(texts(s, 0), []string{"store cell0 2", "load free"}) {
		t.Error(s.Err, s.Calls)
	}
}

// P31.2: a push that is met tells the event of its offer.
func TestMet(t *testing.T) {
	c := sample.Code("stack s; func f(a) { i = 0; while i < 4 { s.push(a); s.pop(); i = i + 1; } } func main() { par f(0, 6); }")
	met := 0
	for seed := range 60 {
		dice := sample.Dice(seed)
		var l []api.Pick
		for range 3000 {
			l = append(l, api.Pick{Kind: api.PStep, A: dice(4)})
		}
		s, err := run.Play(c, sample.Conf(c, 4), l, 100000)
		if err != api.OK || s.Err != api.OK {
			t.Fatal(seed, err, s.Err)
		}
		whole(t, s)
		for _, x := range s.Calls {
			if x.Point >= -1 {
				continue
			}
			met++
			e := -2 - x.Point
			offer := s.Events[e]
			value, kind, _ := word.Offered(offer.Access.New)
			if e < x.First || e > x.Last || offer.Seat != x.Who || x.Op.Kind != api.OPush || offer.Access.Kind != api.ACas || !offer.Result.Ok || value != x.Op.A || kind != 1 || offer.Access.Cell != elim.Slot(s.Layout, x.Who, 0) {
				t.Fatal(seed, x, offer)
			}
		}
	}
	if met == 0 {
		t.Error("nobody met")
	}
}

// whole holds a run against what always follows.
func whole(t *testing.T, s api.State) {
	t.Helper()
	calls := point.Steps(s.Events, s.Calls)
	for kind, many := range [...]int{api.KMap: s.Code.Maps, api.KStack: s.Code.Stacks, api.KChan: s.Code.Chans} {
		for i := range many {
			of := slices.DeleteFunc(slices.Clone(calls), func(c api.Call) bool { return spec.Of(c.Op.Kind) != kind || c.Op.Obj != i })
			c, ok := point.Explain(spec.New(kind), of)
			got := obj.Content(s.Layout, s.Mem, kind, i)
			if !ok || !slices.Equal(c.Vals, got.Vals) || !slices.Equal(c.Keys, got.Keys) {
				t.Fatal("an object isn't explained", kind, i, c, got)
			}
		}
	}
	sits := map[int]bool{}
	for w, alive := range s.Alive {
		if alive && (sits[s.Sits[w]] || s.Mem.Cells[layout.Owner(s.Layout, s.Sits[w])] != w) {
			t.Fatal("two sit at one seat, or one where another one does", s.Sits)
		}
		sits[s.Sits[w]] = sits[s.Sits[w]] || alive
	}
	if !slices.Contains(s.Alive, true) {
		t.Fatal("nobody is alive")
	}
}
