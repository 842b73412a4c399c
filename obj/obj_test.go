package obj_test

import (
	"slices"
	"testing"

	"underwood/api"
	"underwood/arena"
	"underwood/elim"
	"underwood/lab"
	"underwood/layout"
	"underwood/obj"
	"underwood/segment"
	"underwood/spec"
	"underwood/split"
)

func laid(nodes int) (api.Layout, api.Mem) {
	l := lab.Of(api.Conf{Seats: 3, Nodes: nodes, Buckets: 4, Slots: 2, Tasks: 1, Maps: 2, Stacks: 2, Chans: 2})
	return l, lab.Memory(l, obj.Init(l)...)
}

// P24.1
func TestInit(t *testing.T) {
	l := lab.Of(api.Conf{Seats: 1, Nodes: 6, Buckets: 1, Slots: 1, Tasks: 1, Maps: 1, Stacks: 1, Chans: 1})
	got := obj.Init(l)
	want := slices.Concat(split.Init(l, 0, 1), segment.Init(l, 0, 2), arena.Init(l, 3), []api.Access{{Kind: api.AStore, Cell: l.Era, New: 1}})
	if !slices.Equal(got, want) || len(got) != 7+8+5+1 {
		t.Error(got)
	}
	l, m := laid(9)
	got = obj.Init(l)
	want = slices.Concat(split.Init(l, 0, 1), split.Init(l, 1, 2), segment.Init(l, 0, 3), segment.Init(l, 1, 4), arena.Init(l, 5), []api.Access{{Kind: api.AStore, Cell: l.Era, New: 1}})
	if !slices.Equal(got, want) {
		t.Error(got)
	}
	if !slices.Equal(obj.Nodes(l, m), []int{1, 2, 3, 4}) || !slices.Equal(arena.List(l, m), []int{5, 6, 7, 8, 9}) || m.Cells[l.Era] != 1 {
		t.Error(obj.Nodes(l, m))
	}
	l = lab.Of(api.Conf{Seats: 1, Buckets: 1, Slots: 1, Tasks: 1})
	if got := obj.Init(l); !slices.Equal(got, []api.Access{{Kind: api.AStore, Cell: l.Free}, {Kind: api.AStore, Cell: l.Era, New: 1}}) {
		t.Error("no objects", got)
	}
}

// P24.2
func TestContentAndNodes(t *testing.T) {
	l, m := laid(12)
	for _, op := range []api.Op{{Kind: api.OPut, Obj: 1, A: 7, B: 70}, {Kind: api.OPush, Obj: 0, A: 1}, {Kind: api.OPush, Obj: 0, A: 2}, {Kind: api.OSend, Obj: 1, A: 5}, {Kind: api.OSend, Obj: 1, A: 6}, {Kind: api.OPut, Obj: 0, A: 1, B: 2}} {
		_, on, out := lab.Alone(l, m, obj.Next, 0, nil, op, nil)
		if !out.Is {
			t.Fatal(op, out)
		}
		m = on
	}
	for i, x := range []struct {
		kind, i int
		want    api.Content
	}{
		{api.KMap, 1, api.Content{Kind: api.KMap, Keys: []int{7}, Vals: []int{70}}}, {api.KMap, 2, api.Content{Kind: api.KMap}},
		{api.KStack, 0, api.Content{Kind: api.KStack, Vals: []int{2, 1}}}, {api.KStack, 1, api.Content{Kind: api.KStack}}, {api.KStack, 9, api.Content{Kind: api.KStack}},
		{api.KChan, 1, api.Content{Kind: api.KChan, Vals: []int{5, 6}}}, {api.KChan, 0, api.Content{Kind: api.KChan}},
		{api.KCell, 0, api.Content{Kind: api.KCell}}, {7, 0, api.Content{Kind: 7}}, {-1, 0, api.Content{Kind: -1}},
	} {
		got := obj.Content(l, m, x.kind, x.i)
		if got.Kind != x.want.Kind || !slices.Equal(got.Keys, x.want.Keys) || !slices.Equal(got.Vals, x.want.Vals) {
			t.Error(i, got)
		}
	}
	// Nodes 5, 6, 7 and 8 were taken, in this order; a map's dummy stands ahead of its list.
	if got := obj.Nodes(l, m); !slices.Equal(got, []int{1, 8, 2, 5, 7, 6, 3, 4}) {
		t.Error(got)
	}
	m.Cells[layout.Bucket(l, 0, 0)] = 99
	m.Cells[layout.Bucket(l, 1, 0)] = 0
	if got := obj.Nodes(l, m); !slices.Equal(got, []int{99, 7, 6, 3, 4}) {
		t.Error("whatever its number, but 0", got)
	}
	for n := range layout.Bucket(l, 0, 0) + 2 {
		if got := obj.Nodes(l, api.Mem{Cells: m.Cells[:n]}); len(got) != 0 && n <= layout.Bucket(l, 0, 0) {
			t.Error(n, got)
		}
	}
}

// P24.3
func TestNext(t *testing.T) {
	l, m := laid(12)
	gone := [][2]int{{12, 1}}
	type next = func(l api.Layout, me int, gone [][2]int, op api.Op, log []api.Result) (api.Access, api.Out, bool)
	for kind, of := range map[int]next{api.OGet: split.Next, api.OPut: split.Next, api.ODel: split.Next, api.OPush: elim.Next, api.OPop: elim.Next, api.OSend: segment.Next, api.ORecv: segment.Next} {
		for _, o := range []api.Op{{Kind: kind, A: 3, B: 4}, {Kind: kind}, {Kind: kind, Obj: 1, A: api.MaxKey}, {Kind: kind, Obj: 2, A: 1}, {Kind: kind, Obj: -1, A: 1}} {
			did, on, out := lab.Alone(l, m, obj.Next, 1, gone, o, nil)
			did2, on2, out2 := lab.Alone(l, m, of, 1, gone, o, nil)
			if !slices.Equal(did, did2) || !slices.Equal(on.Cells, on2.Cells) || !lab.SameOut(out, out2) {
				t.Error(o, did, out)
			}
		}
	}
	want := api.Out{Err: api.ErrArg, Point: -1, Gone: gone}
	for _, o := range []api.Op{{Kind: api.OSend, A: -1}, {Kind: api.OSend, A: api.Wrap}, {Kind: api.OPush, A: -1}, {Kind: 0}, {Kind: api.OPushD}, {Kind: -1}, {Kind: 99}} {
		did, _, out := lab.Alone(l, m, obj.Next, 1, gone, o, nil)
		if len(did) != 0 || !lab.SameOut(out, want) {
			t.Error(o, did, out)
		}
	}
	if _, _, out := lab.Alone(l, m, obj.Next, 1, nil, api.Op{Kind: api.OSend, A: api.Wrap - 1}, nil); !out.Is {
		t.Error("the greatest value", out)
	}
}

// P24.4
func TestMany(t *testing.T) {
	kinds := []int{api.OGet, api.OPut, api.OPut, api.ODel, api.OPush, api.OPop, api.OSend, api.ORecv}
	for seed := range 120 {
		dice := lab.Dice(seed)
		l, m := laid(40)
		jobs := make([][]api.Op, 3)
		for i := range jobs {
			for range 16 {
				jobs[i] = append(jobs[i], api.Op{Kind: kinds[dice(len(kinds))], Obj: dice(5) / 4, A: dice(6), B: dice(50)})
			}
		}
		r := lab.Run(l, m, obj.Next, jobs, dice)
		if r.Fault != "" {
			t.Fatal(seed, r.Fault)
		}
		for _, kind := range []int{api.KMap, api.KStack, api.KChan} {
			for i := range 2 {
				want, ok := r.Explain(spec.New(kind), kind, i)
				got := obj.Content(l, r.M, kind, i)
				if !ok || !slices.Equal(got.Keys, want.Keys) || !slices.Equal(got.Vals, want.Vals) {
					t.Fatal(seed, kind, i, ok, got, want)
				}
			}
		}
		if !r.Nodes(obj.Nodes(l, r.M)) {
			t.Fatal(seed, "nodes are lost")
		}
	}
}
