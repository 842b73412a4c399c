package arena_test

import (
	"reflect"
	"slices"
	"testing"

	"underwood/api"
	"underwood/arena"
	"underwood/lab"
	"underwood/layout"
	"underwood/pace"
	"underwood/word"
)

func three() api.Layout {
	return lab.Of(api.Conf{Seats: 2, Nodes: 3, Buckets: 1, Slots: 1, Tasks: 1})
}

func op(kind, a int) api.Op { return api.Op{Kind: kind, A: a, Obj: 7, B: 9} }

// P15.1
func TestInit(t *testing.T) {
	l := three()
	store := func(cell, n int) api.Access { return api.Access{Kind: api.AStore, Cell: cell, New: n} }
	for from, want := range map[int][]api.Access{
		-5: {store(layout.Node(l, 1, 7), 2), store(layout.Node(l, 2, 7), 3), store(layout.Node(l, 3, 7), 0), store(l.Free, 1)},
		1:  {store(layout.Node(l, 1, 7), 2), store(layout.Node(l, 2, 7), 3), store(layout.Node(l, 3, 7), 0), store(l.Free, 1)},
		2:  {store(layout.Node(l, 2, 7), 3), store(layout.Node(l, 3, 7), 0), store(l.Free, 2)},
		3:  {store(layout.Node(l, 3, 7), 0), store(l.Free, 3)},
		4:  {store(l.Free, 0)},
		99: {store(l.Free, 0)},
	} {
		if got := arena.Init(l, from); !slices.Equal(got, want) {
			t.Error(from, got)
		}
	}
}

func TestList(t *testing.T) {
	l := three()
	m := lab.Memory(l, arena.Init(l, 1)...)
	if got := arena.List(l, m); !slices.Equal(got, []int{1, 2, 3}) {
		t.Error(got)
	}
	m.Cells[l.Free] = word.Pack(api.Ref{Idx: 2, Mark: true, Cnt: 77})
	if got := arena.List(l, m); !slices.Equal(got, []int{2, 3}) {
		t.Error(got)
	}
	m.Cells[layout.Node(l, 3, 7)] = 2
	if got := arena.List(l, m); !slices.Equal(got, []int{2, 3}) {
		t.Error("a node that was told", got)
	}
	m.Cells[layout.Node(l, 3, 7)] = 4
	if got := arena.List(l, m); !slices.Equal(got, []int{2, 3}) {
		t.Error("no such node", got)
	}
	m.Cells = m.Cells[:layout.Node(l, 3, 7)]
	if got := arena.List(l, m); !slices.Equal(got, []int{2, 3}) {
		t.Error("a cell that is not there", got)
	}
	most := lab.Of(api.Conf{Seats: 1, Nodes: api.MaxNode, Buckets: 1, Slots: 1, Tasks: 1})
	if got := arena.List(most, lab.Memory(most, arena.Init(most, 1)...)); len(got) != api.MaxNode || got[api.MaxNode-1] != api.MaxNode {
		t.Error("as many nodes as there may be", len(got))
	}
	if got := arena.List(l, api.Mem{}); len(got) != 0 {
		t.Error("no memory", got)
	}
}

// P15.2, P15.3
func TestAlone(t *testing.T) {
	l := three()
	m := lab.Memory(l, arena.Init(l, 1)...)
	m.Cells[l.Era] = 6
	gone := [][2]int{{3, 4}}
	for i, x := range []struct {
		op   api.Op
		did  string
		want api.Out
	}{
		{op(arena.Take, 0), "load free\n load node1.7\n cas free 1 131074\n load era\n store node1.6 6", api.Out{Val: 1, Is: true, Point: 2}},
		{op(arena.Take, 5), "load free\n load node2.7\n cas free 131074 262147\n load era\n store node2.6 6", api.Out{Val: 2, Is: true, Point: 2}},
		{op(arena.Give, 1), "load free\n store node1.7 3\n cas free 262147 393217", api.Out{Is: true, Point: 2}},
		{op(arena.Take, 0), "load free\n load node1.7\n cas free 393217 524291\n load era\n store node1.6 6", api.Out{Val: 1, Is: true, Point: 2}},
		{op(arena.Take, 0), "load free\n load node3.7\n cas free 524291 655360\n load era\n store node3.6 6", api.Out{Val: 3, Is: true, Point: 2}},
		{op(arena.Take, 0), "load free", api.Out{Err: api.ErrFull}},
		{op(0, 0), "", api.Out{Err: api.ErrArg, Point: -1}},
		{op(3, 0), "", api.Out{Err: api.ErrArg, Point: -1}},
	} {
		did, on, out := lab.Alone(l, m, arena.Next, 1, gone, x.op, nil)
		x.want.Gone = gone
		if lab.Did(did) != lab.Lines(x.did) || !lab.SameOut(out, x.want) {
			t.Error(i, did, out)
		}
		m = on
	}
}

// P15.2, P15.3: what another one does in between.
func TestPassed(t *testing.T) {
	l := three()
	m := lab.Memory(l, arena.Init(l, 1)...)
	did, _, out := lab.Alone(l, m, arena.Next, 0, nil, op(arena.Take, 0), func(k int, m api.Mem) {
		if k == 2 {
			m.Cells[l.Free] = word.Pack(api.Ref{Idx: 2, Cnt: 1})
		}
	})
	if lab.Did(did) != lab.Lines("load free\n load node1.7\n cas free 1 131074 no\n load free\n load node2.7\n cas free 131074 262147\n load era\n store node2.6 0") || out.Val != 2 || out.Point != 5 {
		t.Error(did, out)
	}
	did, _, out = lab.Alone(l, m, arena.Next, 0, nil, op(arena.Take, 0), func(k int, m api.Mem) {
		if k == 2 {
			m.Cells[l.Free] = word.Pack(api.Ref{Cnt: 9})
		}
	})
	if lab.Did(did) != lab.Lines("load free\n load node1.7\n cas free 1 131074 no\n load free") || out.Err != api.ErrFull || out.Point != 3 || out.Is {
		t.Error(did, out)
	}
	did, _, out = lab.Alone(l, m, arena.Next, 0, nil, op(arena.Give, 3), func(k int, m api.Mem) {
		if k == 2 {
			m.Cells[l.Free] = word.Pack(api.Ref{Idx: 2, Cnt: 1})
		}
	})
	if lab.Did(did) != lab.Lines("load free\n store node3.7 1\n cas free 1 131075 no\n load free\n store node3.7 2\n cas free 131074 262147") || out.Point != 5 || !out.Is {
		t.Error(did, out)
	}
}

func TestLogBehindTheEnd(t *testing.T) {
	l := three()
	log := []api.Result{{Val: 1, Ok: true}, {Val: 2, Ok: true}, {Val: 1, Ok: true}, {Val: 5, Ok: true}}
	a, out, done := arena.Next(l, 0, nil, op(arena.Take, 0), log)
	if done || a != (api.Access{Kind: api.AStore, Cell: layout.Node(l, 1, 6), New: 5}) || !reflect.DeepEqual(out, api.Out{}) {
		t.Error(a, out, done)
	}
	a, out, done = arena.Next(l, 0, nil, op(arena.Take, 0), append(log, make([]api.Result, 5)...))
	if !done || a != (api.Access{}) || out.Val != 1 || out.Point != 2 {
		t.Error(a, out, done)
	}
}

// P15.5
func TestMany(t *testing.T) {
	l := lab.Of(api.Conf{Seats: 4, Nodes: 5, Buckets: 1, Slots: 1, Tasks: 1})
	had := map[int]bool{}
	// Takes up to two nodes, and gives them back.
	both := func(l api.Layout, me int, gone [][2]int, op api.Op, log []api.Result) (api.Access, api.Out, bool) {
		return pace.Run(log, func(w *pace.Walk) api.Out {
			a := w.Call(arena.Next, l, me, gone, api.Op{Kind: arena.Take})
			b := w.Call(arena.Next, l, me, gone, api.Op{Kind: arena.Take})
			if a.Is && b.Is && a.Val == b.Val {
				t.Error("a node is had twice")
			}
			for _, x := range []api.Out{a, b} {
				if x.Is {
					had[x.Val] = true
					w.Call(arena.Next, l, me, gone, api.Op{Kind: arena.Give, A: x.Val})
				}
			}
			return api.Out{Is: a.Is || b.Is, Point: -1}
		})
	}
	for seed := range 60 {
		jobs := make([][]api.Op, 4)
		for i := range jobs {
			jobs[i] = make([]api.Op, 6)
		}
		r := lab.Run(l, lab.Memory(l, arena.Init(l, 1)...), both, jobs, lab.Dice(seed))
		if r.Fault != "" || !r.Nodes(nil) || len(r.Calls) != 24 {
			t.Fatal(seed, r.Fault, arena.List(l, r.M))
		}
		if word.Of(r.M.Cells[l.Free]).Cnt < 24 {
			t.Error("the pointer is not turned", word.Of(r.M.Cells[l.Free]))
		}
	}
	if len(had) != 5 {
		t.Error(had)
	}
}
