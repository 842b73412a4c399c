package task_test

import (
	"slices"
	"testing"

	"underwood/api"
	"underwood/lab"
	"underwood/layout"
	"underwood/pace"
	"underwood/task"
)

// laid is four tasks, of which the first one is the main one, and claimed.
func laid() (api.Layout, api.Mem) {
	l := lab.Of(api.Conf{Seats: 3, Buckets: 1, Slots: 1, Tasks: 4})
	m := lab.Memory(l)
	m.Cells[l.Count], m.Cells[layout.Task(l, 1, 0)], m.Cells[layout.Task(l, 1, 1)] = 1, 2, 1
	return l, m
}

// P25.1 to P25.5
func TestAlone(t *testing.T) {
	l, m := laid()
	gone := [][2]int{{1, 2}}
	for i, x := range []struct {
		op   api.Op
		did  string
		want api.Out
	}{
		{api.Op{Kind: api.OMake, A: 1}, "add count 1\n store task2.3 1\n store task2.1 1\n add task1.1 1\n store task2.0 1", api.Out{Val: 2, Is: true, Point: 4}},
		{api.Op{Kind: api.OMake, A: 2}, "add count 1\n store task3.3 2\n store task3.1 1\n add task2.1 1\n store task3.0 1", api.Out{Val: 3, Is: true, Point: 4}},
		{api.Op{Kind: api.OClaim, A: 2}, "cas task2.0 1 2", api.Out{Is: true}},
		{api.Op{Kind: api.OClaim, A: 2}, "cas task2.0 1 2 no", api.Out{}},
		{api.Op{Kind: api.OSync, A: 1}, "add task1.1 -1", api.Out{}},
		{api.Op{Kind: api.OEnd, A: 3, B: 30}, "store task3.2 30\n store task3.0 3\n load task3.3\n add task2.1 -1", api.Out{Point: 1}},
		{api.Op{Kind: api.OSync, A: 2}, "add task2.1 -1\n store task2.1 1", api.Out{Is: true}},
		{api.Op{Kind: api.OFetch, A: 3}, "load task3.2", api.Out{Val: 30, Is: true}},
		{api.Op{Kind: api.OEnd, A: 2, B: 20}, "store task2.2 20\n store task2.0 3\n load task2.3\n add task1.1 -1\n store task1.1 1", api.Out{Val: 1, Point: 1}},
		{api.Op{Kind: api.OEnd, A: 1, B: 10}, "store task1.2 10\n store task1.0 3\n load task1.3\n store done 1", api.Out{Is: true, Point: 1}},
		{api.Op{Kind: api.OClaim, A: 4}, "cas task4.0 1 2 no", api.Out{}},
		{api.Op{Kind: api.OMake, A: 4}, "add count 1\n store task4.3 4\n store task4.1 1\n add task4.1 1\n store task4.0 1", api.Out{Val: 4, Is: true, Point: 4}},
		{api.Op{Kind: api.OMake, A: 1}, "add count 1", api.Out{Err: api.ErrTasks}},
	} {
		did, on, out := lab.Alone(l, m, task.Next, 2, gone, x.op, nil)
		x.want.Gone = gone
		if lab.Did(did) != lab.Lines(x.did) || !lab.SameOut(out, x.want) {
			t.Errorf("%d: %v\n%s", i, out, lab.Did(did))
		}
		m = on
	}
	if got := task.Words(l, m); !slices.Equal(got, []int{3, 3, 3, 1}) {
		t.Error(got)
	}
}

// P25.6
func TestWrong(t *testing.T) {
	l, m := laid()
	want := api.Out{Err: api.ErrArg, Point: -1, Gone: [][2]int{{1, 2}}}
	for kind := api.OMake - 1; kind <= api.OFetch+1; kind++ {
		for _, a := range []int{0, 5, -1} {
			did, _, out := lab.Alone(l, m, task.Next, 0, want.Gone, api.Op{Kind: kind, A: a}, nil)
			if len(did) != 0 || !lab.SameOut(out, want) {
				t.Error(kind, a, did, out)
			}
		}
	}
	for _, kind := range []int{0, api.OGet, api.OSteal, api.OAdopt} {
		if did, _, out := lab.Alone(l, m, task.Next, 0, want.Gone, api.Op{Kind: kind, A: 1}, nil); len(did) != 0 || !lab.SameOut(out, want) {
			t.Error(kind, did, out)
		}
	}
	m.Cells[layout.Task(l, 2, 0)] = 9
	if got := task.Words(l, m); !slices.Equal(got, []int{2, 9, 0, 0}) {
		t.Error(got)
	}
	if got := task.Words(l, api.Mem{Cells: m.Cells[:layout.Task(l, 2, 0)]}); !slices.Equal(got, []int{2, 0, 0, 0}) {
		t.Error("cells that are not there", got)
	}
}

// P25.7: the parent makes two children, then syncs; two others claim and end them. One is told that it goes on.
func TestMany(t *testing.T) {
	l, m := laid()
	ons := 0
	program := func(l api.Layout, me int, gone [][2]int, op api.Op, log []api.Result) (api.Access, api.Out, bool) {
		told := 0
		a, out, done := pace.Run(log, func(w *pace.Walk) api.Out {
			do := func(kind, t int) api.Out { return w.Call(task.Next, l, me, nil, api.Op{Kind: kind, A: t}) }
			if me == 0 {
				first, second := do(api.OMake, 1).Val, do(api.OMake, 1).Val
				if first == second || first < 2 || second < 2 {
					t.Error("numbers", first, second)
				}
				if do(api.OSync, 1).Is {
					told++
				}
				return api.Out{Point: -1}
			}
			for _, c := range []int{2, 3} {
				for range 20 {
					if do(api.OClaim, c).Is {
						told += do(api.OEnd, c).Val
						break
					}
				}
			}
			return api.Out{Point: -1}
		})
		if done {
			ons += told
		}
		return a, out, done
	}
	whole := 0
	for seed := range 300 {
		ons = 0
		r := lab.Run(l, m, program, [][]api.Op{{{}}, {{}}, {{}}}, lab.Dice(seed))
		words := task.Words(l, r.M)
		if r.Fault != "" || ons > 1 {
			t.Fatal(seed, r.Fault, ons)
		}
		if words[1] == 3 && words[2] == 3 {
			whole++
			if ons != 1 || r.M.Cells[layout.Task(l, 1, 1)] != 1 {
				t.Fatal(seed, "nobody is told that the parent goes on", ons)
			}
		}
		for c := 2; c <= 3; c++ {
			claims := 0
			for _, e := range r.Events {
				if e.Access.Kind == api.ACas && e.Access.Cell == layout.Task(l, c, 0) && e.Result.Ok {
					claims++
				}
			}
			if claims > 1 {
				t.Fatal(seed, "claimed twice")
			}
		}
	}
	if whole < 100 {
		t.Error("hardly any run came to its end", whole)
	}
}
