package era_test

import (
	"slices"
	"testing"

	"underwood/api"
	"underwood/arena"
	"underwood/era"
	"underwood/lab"
	"underwood/layout"
	"underwood/pace"
)

func two() (api.Layout, api.Mem) {
	l := lab.Of(api.Conf{Seats: 2, Nodes: 6, Buckets: 1, Slots: 1, Tasks: 1, Cells: 2})
	m := lab.Memory(l, arena.Init(l, 5)...)
	m.Cells[l.Era] = 7
	m.Cells[layout.Cell(l, 0)] = 99
	return l, m
}

// P16.1
func TestGuard(t *testing.T) {
	l, m := two()
	gone := [][2]int{{1, 2}}
	op := api.Op{Kind: era.Guard, A: 2, B: layout.Cell(l, 0)}
	did, on, out := lab.Alone(l, m, era.Next, 1, gone, op, nil)
	lab.Check(t, did, "load cell0\n load era\n store resv1.2 7\n load cell0\n load era", out, api.Out{Val: 99, Is: true, Point: 3, Gone: gone})
	if on.Cells[layout.Resv(l, 1, 2)] != 7 {
		t.Error("no reservation")
	}
	did, _, out = lab.Alone(l, m, era.Next, 0, nil, op, func(k int, m api.Mem) {
		if k == 4 || k == 6 {
			m.Cells[l.Era]++
			m.Cells[layout.Cell(l, 0)]++
		}
	})
	lab.Check(t, did, "load cell0\n load era\n store resv0.2 7\n load cell0\n load era\n store resv0.2 8\n load cell0\n load era\n store resv0.2 9\n load cell0\n load era", out, api.Out{Val: 101, Is: true, Point: 9})
	m.Cells[l.Era] = 0
	did, _, out = lab.Alone(l, m, era.Next, 0, nil, op, nil)
	lab.Check(t, did, "load cell0\n load era", out, api.Out{Val: 99, Is: true, Point: 0})
}

func TestWrong(t *testing.T) {
	l, m := two()
	gone := [][2]int{{1, 2}}
	for _, op := range []api.Op{
		{Kind: era.Guard, A: 3}, {Kind: era.Guard, A: -1}, {Kind: era.Guard, B: -1}, {Kind: era.Guard, B: l.Size},
		{Kind: era.Retire, A: 0}, {Kind: era.Retire, A: 7}, {Kind: era.Retire, A: -1}, {Kind: 0}, {Kind: 4},
	} {
		did, _, out := lab.Alone(l, m, era.Next, 0, gone, op, nil)
		lab.Check(t, did, "", out, api.Out{Err: api.ErrArg, Point: -1, Gone: gone})
	}
	for _, b := range []int{0, l.Size - 1} {
		if did, _, out := lab.Alone(l, m, era.Next, 0, gone, api.Op{Kind: era.Guard, B: b}, nil); len(did) == 0 || out.Err != api.OK {
			t.Error(b, did, out)
		}
	}
}

// P16.2
func TestDrop(t *testing.T) {
	l, m := two()
	gone := [][2]int{{1, 2}}
	did, _, out := lab.Alone(l, m, era.Next, 1, gone, api.Op{Kind: era.Drop, A: 9, B: -9}, nil)
	lab.Check(t, did, "store resv1.0 0\n store resv1.1 0\n store resv1.2 0", out, api.Out{Is: true, Point: 2, Gone: gone})
}

// P16.3
func TestRetire(t *testing.T) {
	l, m := two()
	did, _, out := lab.Alone(l, m, era.Next, 0, nil, api.Op{Kind: era.Retire, A: 3}, nil)
	lab.Check(t, did, "load era\n add era 1", out, api.Out{Is: true, Point: 1, Gone: [][2]int{{3, 7}}})
	did, _, out = lab.Alone(l, m, era.Next, 0, nil, api.Op{Kind: era.Retire, A: l.Conf.Nodes}, nil)
	lab.Check(t, did, "load era\n add era 1", out, api.Out{Is: true, Point: 1, Gone: [][2]int{{6, 7}}})
	did, _, out = lab.Alone(l, m, era.Next, 0, [][2]int{{1, 2}, {2, 3}}, api.Op{Kind: era.Retire, A: 3}, nil)
	lab.Check(t, did, "load era\n add era 1", out, api.Out{Is: true, Point: 1, Gone: [][2]int{{1, 2}, {2, 3}, {3, 7}}})
}

func TestRetireLooks(t *testing.T) {
	l, m := two()
	look := "load era\n add era 1\n load resv0.0\n load resv0.1\n load resv0.2\n load resv1.0\n load resv1.1\n load resv1.2\n"
	gone := make([][2]int, 3, 9)
	copy(gone, [][2]int{{1, 3}, {2, 5}, {4, 6}})
	for n, born := range map[int]int{1: 2, 2: 4, 3: 6, 4: 6} {
		m.Cells[layout.Node(l, n, 6)] = born
	}
	op := api.Op{Kind: era.Retire, A: 3}
	give := func(n, next, old, new string) string {
		return "load node" + n + ".6\n load free\n store node" + n + ".7 " + next + "\n cas free " + old + " " + new + "\n"
	}
	all := give("1", "5", "5", "131073") + give("2", "1", "131073", "262146") + give("4", "2", "262146", "393220") + give("3", "4", "393220", "524291")
	did, on, out := lab.Alone(l, m, era.Next, 0, gone, op, nil)
	lab.Check(t, did, look+all, out, api.Out{Is: true, Point: 1})
	if !slices.Equal(arena.List(l, on), []int{3, 4, 2, 1, 5, 6}) {
		t.Error(arena.List(l, on))
	}
	// A reservation holds all that was in at its era: from the birth to the retirement.
	for now, want := range map[int][][2]int{
		1: nil, 2: {{1, 3}}, 3: {{1, 3}}, 4: {{2, 5}}, 5: {{2, 5}}, 6: {{4, 6}, {3, 7}}, 7: {{3, 7}}, 8: nil, -1: nil,
	} {
		for slot := range 6 {
			with := api.Mem{Cells: slices.Clone(m.Cells)}
			with.Cells[layout.Resv(l, slot/3, slot%3)] = now
			_, on, out := lab.Alone(l, with, era.Next, 0, gone, op, nil)
			if !slices.Equal(out.Gone, want) {
				t.Error(now, slot, out.Gone)
			}
			if len(arena.List(l, on)) != 6-len(want) {
				t.Error(now, slot, arena.List(l, on))
			}
		}
	}
	if gone = gone[:9]; gone[3] != [2]int{} {
		t.Error("what was handed in was written into")
	}
	// A birth below 1 counts as 1: a reservation of 0 is none.
	m.Cells[layout.Node(l, 1, 6)] = 0
	if _, _, out := lab.Alone(l, m, era.Next, 0, gone[:3], op, nil); len(out.Gone) != 0 {
		t.Error("a reservation of 0 holds nothing", out.Gone)
	}
	m.Cells[layout.Resv(l, 1, 0)] = 1
	if _, _, out := lab.Alone(l, m, era.Next, 0, gone[:3], op, nil); !slices.Equal(out.Gone, [][2]int{{1, 3}}) {
		t.Error("a reservation of 1 holds what was born below", out.Gone)
	}
}

// P16.5: what a guard told of a cell isn't taken again until its seat drops it.
func TestMany(t *testing.T) {
	l := lab.Of(api.Conf{Seats: 3, Nodes: 16, Buckets: 1, Slots: 1, Tasks: 1, Cells: 1})
	cell := layout.Cell(l, 0)
	// Kind 0 reads the node of the cell; another kind puts another node into it, and retires the one that was there.
	turns := func(l api.Layout, me int, gone [][2]int, op api.Op, log []api.Result) (api.Access, api.Out, bool) {
		return pace.Run(log, func(w *pace.Walk) api.Out {
			if op.Kind == 0 {
				node := w.Call(era.Next, l, me, gone, api.Op{Kind: era.Guard, A: op.A, B: cell}).Val
				first := w.Load(layout.Node(l, node, 1))
				if w.Load(layout.Node(l, node, 1)) != first {
					t.Error("a node that is held was used again")
				}
				w.Call(era.Next, l, me, gone, api.Op{Kind: era.Drop})
				return api.Out{Is: true, Point: -1, Gone: gone}
			}
			node := w.Call(arena.Next, l, me, gone, api.Op{Kind: arena.Take})
			if !node.Is {
				return api.Out{Err: api.ErrFull, Point: -1, Gone: gone}
			}
			w.Store(layout.Node(l, node.Val, 1), op.A)
			for {
				old := w.Load(cell)
				if w.Cas(cell, old, node.Val) {
					return api.Out{Is: true, Point: -1, Gone: w.Call(era.Next, l, me, gone, api.Op{Kind: era.Retire, A: old}).Gone}
				}
			}
		})
	}
	for seed := range 100 {
		jobs := make([][]api.Op, 3)
		for i := range 10 {
			jobs[0] = append(jobs[0], api.Op{Kind: 1, A: 100 + i})
			jobs[1] = append(jobs[1], api.Op{Kind: 0, A: i % 3})
			jobs[2] = append(jobs[2], api.Op{Kind: (i + seed) % 2, A: (i + seed) % 3})
		}
		m := lab.Memory(l, arena.Init(l, 2)...)
		m.Cells[cell], m.Cells[l.Era] = 1, 1
		r := lab.Run(l, m, turns, jobs, lab.Dice(seed))
		if r.Fault != "" || !r.Nodes([]int{r.M.Cells[cell]}) || r.M.Cells[l.Era] != 1+10+5 {
			t.Fatal(seed, r.Fault, r.M.Cells[l.Era], r.Gone)
		}
	}
}
