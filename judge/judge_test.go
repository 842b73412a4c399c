package judge_test

import (
	"reflect"
	"slices"
	"testing"

	"underwood/api"
	"underwood/judge"
	"underwood/layout"
	"underwood/run"
	"underwood/sample"
)

const text = "cell x; stack s; func f(a) { s.push(a); x = x + s.pop(); return x; } func main() { spawn f(3); y = spawn f(4); return y; }"

func played(t *testing.T, text string, seats int, script []api.Pick) api.State {
	t.Helper()
	c := sample.Code(text)
	s, err := run.Play(c, sample.Conf(c, seats), script, 100000)
	if err != api.OK {
		t.Fatal(err)
	}
	return s
}

// verdicts are Whole, Objects, Once, Nodes and All.
func verdicts(s api.State) [5]bool {
	return [5]bool{judge.Whole(s), judge.Objects(s), judge.Once(s), judge.Nodes(s), judge.All(s)}
}

// P34.6: of each run all is yes.
func TestRuns(t *testing.T) {
	yes := [5]bool{true, true, true, true, true}
	for i, text := range slices.Concat(sample.Free(), sample.Racy()) {
		for seed := range 6 {
			dice := sample.Dice(100*i + seed)
			seats := 1 + dice(4)
			s := played(t, text, seats, sample.Picks(dice, seats, 20*dice(30)))
			if got := verdicts(s); got != yes {
				t.Fatal(text, seed, got)
			}
			part, _ := run.Play(s.Code, s.Layout.Conf, nil, len(s.Events)/2)
			if !judge.Whole(part) || !judge.Once(part) || !judge.Nodes(part) || !judge.All(part) {
				t.Fatal(text, seed, "a run that is not at its end")
			}
		}
	}
}

// P34.1
func TestWhole(t *testing.T) {
	s := played(t, text, 2, sample.Picks(sample.Dice(1), 2, 40))
	for i, turn := range []func(s *api.State){
		func(s *api.State) { s.Events = append([]api.Event{s.Events[0]}, s.Events...) },
		func(s *api.State) { s.Events[5].Result.Val++ },
		func(s *api.State) { s.Events[5].Result.Ok = !s.Events[5].Result.Ok },
		func(s *api.State) { s.Mem.Cells[len(s.Mem.Cells)-1]++ },
		func(s *api.State) { s.Mem.Cells = append(s.Mem.Cells, 0) },
		func(s *api.State) {
			s.Events = append(s.Events, api.Event{Access: api.Access{Kind: api.ALoad, Cell: 1 << 30}})
		},
		func(s *api.State) { s.Events = append(s.Events, api.Event{Access: api.Access{Kind: 9}}) },
		func(s *api.State) { s.Events = append(s.Events, api.Event{Result: api.Result{Val: 1}}) },
		func(s *api.State) { s.Events = append(s.Events, api.Event{Worker: 1}) },
		func(s *api.State) { s.Layout.Conf.Cells++ },
		func(s *api.State) { s.Code.Maps++ },
	} {
		wrong := copied(s)
		turn(&wrong)
		if judge.Whole(wrong) || judge.All(wrong) {
			t.Error(i)
		}
	}
	dead := copied(s)
	dead.Events = append(dead.Events, api.Event{Worker: 1})
	dead.Mem.Cells[layout.Alive(s.Layout, 1)] = 0
	if !judge.Whole(dead) {
		t.Error("a death")
	}
	nobody := copied(s)
	nobody.Events = append(nobody.Events, api.Event{Worker: 77}, api.Event{Worker: -1})
	if !judge.Whole(nobody) {
		t.Error("a death of nobody")
	}
}

func copied(s api.State) api.State {
	s.Events, s.Calls = slices.Clone(s.Events), slices.Clone(s.Calls)
	s.Mem.Cells = slices.Clone(s.Mem.Cells)
	return s
}

// P34.2
func TestObjects(t *testing.T) {
	s := played(t, text, 2, sample.Picks(sample.Dice(2), 2, 40))
	if c, ok := judge.Object(s, api.KStack, 0); !ok || c.Kind != api.KStack || len(c.Vals) != 0 {
		t.Error(c, ok)
	}
	if c, ok := judge.Object(s, api.KMap, 5); !ok || c.Kind != api.KMap || len(c.Vals) != 0 {
		t.Error("an object without calls", c, ok)
	}
	for i, turn := range []func(s *api.State){
		func(s *api.State) { s.Calls[0].Is = !s.Calls[0].Is },
		func(s *api.State) { s.Calls[len(s.Calls)-1].Val++ },
		func(s *api.State) { s.Calls[0].Point = -1 },
		func(s *api.State) { s.Calls[0].Point = s.Calls[0].Last + 1 },
		func(s *api.State) { s.Calls = s.Calls[1:] },
		func(s *api.State) { s.Layout.Conf.Stacks++ },
	} {
		wrong := copied(s)
		turn(&wrong)
		_, ok := judge.Object(wrong, api.KStack, 0)
		if ok || judge.Objects(wrong) || judge.All(wrong) {
			t.Error(i)
		}
	}
	pushed := played(t, "stack s; chan c; map m; func main() { s.push(1); c.send(4); m.put(5, 6); }", 1, nil)
	if c, ok := judge.Object(pushed, api.KMap, 0); !ok || !reflect.DeepEqual(c, api.Content{Kind: api.KMap, Keys: []int{5}, Vals: []int{6}}) {
		t.Error(c, ok)
	}
	for k := range pushed.Calls {
		wrong := copied(pushed)
		wrong.Calls = slices.Delete(wrong.Calls, k, k+1)
		if judge.Objects(wrong) || judge.All(wrong) {
			t.Error("what is there was never put in", k)
		}
		wrong.Err = api.ErrFull
		if judge.Objects(wrong) || !judge.All(wrong) {
			t.Error("a run that is over with a code isn't asked for its objects", k)
		}
	}
	if c, ok := judge.Object(api.State{}, api.KMap, 0); ok || !reflect.DeepEqual(c, api.Content{}) {
		t.Error("a state that may not be", c, ok)
	}
}

// P34.3
func TestOnce(t *testing.T) {
	s := played(t, text, 2, sample.Picks(sample.Dice(3), 2, 40))
	word := func(task int) int { return layout.Task(s.Layout, task, 0) }
	claim := func(task int, ok bool) api.Event {
		return api.Event{Access: api.Access{Kind: api.ACas, Cell: word(task), Old: 1, New: 2}, Result: api.Result{Ok: ok}}
	}
	end := func(task int) api.Event {
		return api.Event{Access: api.Access{Kind: api.AStore, Cell: word(task), New: 3}}
	}
	find := func(e api.Event) int {
		return slices.IndexFunc(s.Events, func(x api.Event) bool { return x.Access == e.Access && (e.Access.Kind != api.ACas || x.Result.Ok) })
	}
	more := func(l ...api.Event) func(s *api.State) {
		return func(s *api.State) { s.Events = append(s.Events, l...) }
	}
	without := func(e api.Event) func(s *api.State) {
		return func(s *api.State) { k := find(e); s.Events = slices.Delete(s.Events, k, k+1) }
	}
	for i, x := range []struct {
		want bool
		turn func(s *api.State)
	}{
		{true, func(*api.State) {}},
		{true, more(claim(2, false))},
		{false, more(claim(2, true))}, {false, more(claim(1, true))}, {false, more(end(1))}, {false, more(end(3))},
		{false, without(claim(2, true))}, {false, without(end(1))}, {false, without(end(2))},
		{false, func(s *api.State) { s.Mem.Cells[s.Layout.Count]++ }}, {false, func(s *api.State) { s.Mem.Cells[s.Layout.Count]-- }},
		{false, func(s *api.State) {
			k := find(claim(2, true))
			e := s.Events[k]
			s.Events = append(slices.Delete(s.Events, k, k+1), e)
		}},
		{true, func(s *api.State) { s.Over = false; without(end(2))(s) }}, {true, func(s *api.State) { s.Err = api.ErrFull; without(end(2))(s) }},
		{true, func(s *api.State) { s.Over = false; without(end(2))(s); without(claim(2, true))(s) }}, {false, func(s *api.State) { s.Over = false; without(claim(2, true))(s) }},
		{false, func(s *api.State) { s.Over = false; more(end(2))(s) }}, {false, func(s *api.State) { s.Over = false; more(end(1))(s) }},
		{false, func(s *api.State) { s.Layout.Conf.Seats = 0 }},
	} {
		wrong := copied(s)
		x.turn(&wrong)
		if judge.Once(wrong) != x.want || !x.want && judge.All(wrong) {
			t.Error(i)
		}
	}
}

// P34.5: each of them is asked.
func TestAll(t *testing.T) {
	s := played(t, text, 2, sample.Picks(sample.Dice(3), 2, 40))
	word := layout.Task(s.Layout, 2, 0)
	twice := copied(s)
	twice.Events = append(twice.Events, api.Event{Access: api.Access{Kind: api.AStore, Cell: word, New: 3}, Result: api.Result{Val: 3, Ok: true}})
	if got := verdicts(twice); got != [5]bool{true, true, false, true, false} {
		t.Error("a task that is done twice", got)
	}
	cell := layout.Node(s.Layout, s.Layout.Conf.Nodes, 0)
	touched := copied(s)
	touched.Events = append(touched.Events, api.Event{Access: api.Access{Kind: api.ALoad, Cell: cell}, Result: api.Result{Val: s.Mem.Cells[cell], Ok: true}})
	if got := verdicts(touched); got != [5]bool{true, true, true, false, false} {
		t.Error("a free node that is touched", got)
	}
	told := copied(s)
	told.Calls[0].Val++
	if got := verdicts(told); got != [5]bool{true, false, true, true, false} {
		t.Error("a call that is told something else", got)
	}
}

// P34.4
func TestNodes(t *testing.T) {
	s := played(t, text, 2, sample.Picks(sample.Dice(4), 2, 40))
	free := s.Layout.Conf.Nodes // never taken
	load := func(node, i int) api.Event {
		return api.Event{Access: api.Access{Kind: api.ALoad, Cell: layout.Node(s.Layout, node, i)}, Result: api.Result{Ok: true}}
	}
	for i := range 8 {
		wrong := copied(s)
		wrong.Events = append(wrong.Events, load(free, i))
		if judge.Nodes(wrong) != (i == 7) {
			t.Error(i)
		}
		wrong = copied(s)
		wrong.Events = append([]api.Event{load(1, i)}, wrong.Events...) // free in the beginning
		if judge.Nodes(wrong) != (i == 7) {
			t.Error("in the beginning", i)
		}
	}
	wrong := copied(s)
	wrong.Events = append(wrong.Events, api.Event{Access: api.Access{Kind: api.ALoad, Cell: -1}})
	if judge.Nodes(wrong) {
		t.Error("an event that can't be")
	}
	wrong = copied(s)
	wrong.Events = append(wrong.Events, api.Event{Access: api.Access{Cell: layout.Node(s.Layout, free, 0)}})
	if !judge.Nodes(wrong) {
		t.Error("a death")
	}
	if verdicts(api.State{}) != [5]bool{} {
		t.Error("a state that may not be")
	}
}
