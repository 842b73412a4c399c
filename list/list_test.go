package list_test

import (
	"slices"
	"testing"

	"underwood/api"
	"underwood/arena"
	"underwood/lab"
	"underwood/layout"
	"underwood/list"
	"underwood/spec"
)

const marked = 1 << 16

// laid is a layout and a memory whose list, at the cell map0.0, has the nodes 1, 2, .. of these order numbers; the nodes behind are free.
func laid(orders ...int) (api.Layout, api.Mem, int) {
	l := lab.Of(api.Conf{Seats: 2, Nodes: len(orders) + 3, Buckets: 1, Slots: 1, Tasks: 1, Maps: 1})
	m := lab.Memory(l, arena.Init(l, len(orders)+1)...)
	m.Cells[l.Era] = 5
	head := layout.Map(l, 0, 0)
	at := head
	for i, o := range orders {
		n := i + 1
		m.Cells[at] = n
		m.Cells[layout.Node(l, n, 1)], m.Cells[layout.Node(l, n, 2)], m.Cells[layout.Node(l, n, 6)] = o, 10*o, 1
		at = layout.Node(l, n, 0)
	}
	return l, m, head
}

func ops(head int) (get, put, del func(a int) api.Op) {
	of := func(kind int) func(a int) api.Op {
		return func(a int) api.Op { return api.Op{Kind: kind, Obj: head, A: a, B: 70 + a} }
	}
	return of(api.OGet), of(api.OPut), of(api.ODel)
}

// P19.1
func TestRow(t *testing.T) {
	l, m, head := laid(3, 5, 8)
	if got := list.Nodes(l, m, head); !slices.Equal(got, []int{1, 2, 3}) {
		t.Error(got)
	}
	if got := list.Row(l, m, head); !slices.Equal(got, [][2]int{{3, 30}, {5, 50}, {8, 80}}) {
		t.Error(got)
	}
	m.Cells[layout.Node(l, 2, 0)] |= marked
	m.Cells[head] |= marked
	if got := list.Row(l, m, head); !slices.Equal(got, [][2]int{{3, 30}, {8, 80}}) || len(list.Nodes(l, m, head)) != 3 {
		t.Error(got)
	}
	m.Cells[layout.Node(l, 3, 0)] = 2
	if got := list.Nodes(l, m, head); !slices.Equal(got, []int{1, 2, 3}) {
		t.Error("a node that was told", got)
	}
	m.Cells[layout.Node(l, 3, 0)] = 7
	if got := list.Nodes(l, m, head); !slices.Equal(got, []int{1, 2, 3}) {
		t.Error("no such node", got)
	}
	cut := api.Mem{Cells: m.Cells[:layout.Node(l, 2, 0)]}
	if got := list.Row(l, cut, head); !slices.Equal(got, [][2]int{{3, 30}, {0, 0}}) {
		t.Error("cells that are not there", got)
	}
	for _, h := range []int{-1, l.Size, 1 << 40} {
		if len(list.Nodes(l, m, h)) != 0 || len(list.Row(l, m, h)) != 0 {
			t.Error("a head that is none", h)
		}
	}
}

const (
	guardHead  = "load map0.0\n load era\n store resv0.0 5\n load map0.0\n load era\n"
	againHead  = "load map0.0\n load era\n"
	guardFirst = "load node1.0\n load era\n store resv0.1 5\n load node1.0\n load era\n load map0.0\n load node1.1\n"
	againFirst = "load node1.0\n load era\n load map0.0\n load node1.1\n"
	guardThird = "load node2.0\n load era\n store resv0.2 5\n load node2.0\n load era\n load node1.0\n load node2.1\n"
	againThird = "load node2.0\n load era\n load node1.0\n load node2.1\n"
	lastOfMany = "load node3.0\n load era\n load node2.0\n load node3.1\n"
	clear2     = "store resv0.0 0\n store resv0.1 0\n"
	clear3     = clear2 + "store resv0.2 0\n"
)

// P19.2
func TestGet(t *testing.T) {
	l, m, head := laid(3, 5, 8)
	get, _, _ := ops(head)
	gone := [][2]int{{6, 4}}
	for _, x := range []struct {
		a    int
		did  string
		want api.Out
	}{
		{3, guardHead + guardFirst + "load node1.2\n" + clear2, api.Out{Val: 30, Is: true, Point: 8}},
		{2, guardHead + guardFirst + clear2, api.Out{Point: 10}},
		{5, guardHead + guardFirst + guardThird + "load node2.2\n" + clear3, api.Out{Val: 50, Is: true, Point: 15}},
		{8, guardHead + guardFirst + guardThird + lastOfMany + "load node3.2\n" + clear3, api.Out{Val: 80, Is: true, Point: 19}},
		{7, guardHead + guardFirst + guardThird + lastOfMany + clear3, api.Out{Point: 21}},
		{9, guardHead + guardFirst + guardThird + lastOfMany + clear3, api.Out{Point: 19}},
	} {
		did, _, out := lab.Alone(l, m, list.Next, 0, gone, get(x.a), nil)
		x.want.Gone = gone
		lab.Check(t, did, x.did, out, x.want)
	}
	l, m, head = laid()
	did, _, out := lab.Alone(l, m, list.Next, 0, nil, get(1), nil)
	lab.Check(t, did, guardHead+"store resv0.0 0", out, api.Out{Point: 3})
}

// P19.3
func TestPut(t *testing.T) {
	l, m, head := laid(3)
	_, put, _ := ops(head)
	take := "load free\n load node2.7\n cas free 2 131075\n load era\n store node2.6 5\n"
	did, on, out := lab.Alone(l, m, list.Next, 0, nil, put(3), nil)
	lab.Check(t, did, guardHead+guardFirst+clear2, out, api.Out{Point: 8})
	did, on, out = lab.Alone(l, m, list.Next, 0, nil, put(2), nil)
	lab.Check(t, did, guardHead+guardFirst+take+"store node2.1 2\n store node2.2 72\n store node2.0 1\n cas map0.0 1 2\n"+clear2, out, api.Out{Is: true, Point: 20})
	if got := list.Row(l, on, head); !slices.Equal(got, [][2]int{{2, 72}, {3, 30}}) {
		t.Error(got)
	}
	did, on, out = lab.Alone(l, m, list.Next, 0, nil, put(9), nil)
	lab.Check(t, did, guardHead+guardFirst+take+"store node2.1 9\n store node2.2 79\n store node2.0 0\n cas node1.0 0 2\n"+clear2, out, api.Out{Is: true, Point: 20})
	if got := list.Row(l, on, head); !slices.Equal(got, [][2]int{{3, 30}, {9, 79}}) {
		t.Error(got)
	}
	m.Cells[l.Free] = 0
	did, _, out = lab.Alone(l, m, list.Next, 0, nil, put(9), nil)
	lab.Check(t, did, guardHead+guardFirst+"load free\n"+clear2, out, api.Out{Err: api.ErrFull, Point: 12})
}

func TestPutPassed(t *testing.T) {
	l, m, head := laid(3)
	_, put, _ := ops(head)
	take := "load free\n load node2.7\n cas free 2 131075\n load era\n store node2.6 5\n"
	// Somebody puts the node 4 of another order number, or of the same, ahead of it.
	with := func(order int) func(k int, m api.Mem) {
		return func(k int, m api.Mem) {
			if k == 20 {
				m.Cells[layout.Node(l, 4, 0)], m.Cells[layout.Node(l, 4, 1)], m.Cells[head] = 1, order, 4
			}
		}
	}
	did, on, out := lab.Alone(l, m, list.Next, 0, nil, put(2), with(1))
	lab.Check(t, did, guardHead+guardFirst+take+"store node2.1 2\n store node2.2 72\n store node2.0 1\n cas map0.0 1 2 no\n"+
		againHead+"load node4.0\n load era\n load map0.0\n load node4.1\n"+"load node1.0\n load era\n store resv0.2 5\n load node1.0\n load era\n load node4.0\n load node1.1\n"+
		"store node2.0 1\n cas node4.0 1 2\n"+clear3, out, api.Out{Is: true, Point: 35})
	if got := list.Row(l, on, head); !slices.Equal(got, [][2]int{{1, 0}, {2, 72}, {3, 30}}) {
		t.Error(got)
	}
	did, on, out = lab.Alone(l, m, list.Next, 0, nil, put(2), with(2))
	lab.Check(t, did, guardHead+guardFirst+take+"store node2.1 2\n store node2.2 72\n store node2.0 1\n cas map0.0 1 2 no\n"+
		againHead+"load node4.0\n load era\n load map0.0\n load node4.1\n"+
		"load free\n store node2.7 3\n cas free 131075 262146\n"+clear2, out, api.Out{Point: 23})
	if !slices.Contains(arena.List(l, on), 2) {
		t.Error("the node is lost")
	}
}

// P19.4
func TestDel(t *testing.T) {
	l, m, head := laid(3, 5)
	_, _, del := ops(head)
	gone := [][2]int{{4, 4}}
	did, on, out := lab.Alone(l, m, list.Next, 0, gone, del(3), nil)
	lab.Check(t, did, guardHead+guardFirst+"cas node1.0 2 65538\n cas map0.0 1 2\n"+clear2+"load era\n add era 1", out, api.Out{Is: true, Point: 12, Gone: [][2]int{{4, 4}, {1, 5}}})
	if got := list.Row(l, on, head); !slices.Equal(got, [][2]int{{5, 50}}) {
		t.Error(got)
	}
	did, _, out = lab.Alone(l, m, list.Next, 0, gone, del(4), nil)
	lab.Check(t, did, guardHead+guardFirst+guardThird+clear3, out, api.Out{Point: 17, Gone: gone})
	did, _, out = lab.Alone(l, m, list.Next, 0, nil, del(6), nil)
	lab.Check(t, did, guardHead+guardFirst+guardThird+clear3, out, api.Out{Point: 15})
	did, _, out = lab.Alone(l, m, list.Next, 0, nil, del(5), nil)
	lab.Check(t, did, guardHead+guardFirst+guardThird+"cas node2.0 0 65536\n cas node1.0 2 0\n"+clear3+"load era\n add era 1", out, api.Out{Is: true, Point: 19, Gone: [][2]int{{2, 5}}})
}

func TestDelPassed(t *testing.T) {
	l, m, head := laid(3, 5)
	_, _, del := ops(head)
	// The mark fails: somebody put a node behind.
	did, _, out := lab.Alone(l, m, list.Next, 0, nil, del(5), func(k int, m api.Mem) {
		if k == 19 {
			m.Cells[layout.Node(l, 2, 0)], m.Cells[layout.Node(l, 4, 1)] = 4, 6
		}
	})
	lab.Check(t, did, guardHead+guardFirst+guardThird+"cas node2.0 0 65536 no\n"+againHead+againFirst+againThird+"cas node2.0 4 65540\n cas node1.0 2 4\n"+clear3+"load era\n add era 1", out, api.Out{Is: true, Point: 30, Gone: [][2]int{{2, 5}}})
	// The unlinking fails: it is found, and unlinked there.
	did, on, out := lab.Alone(l, m, list.Next, 0, nil, del(5), func(k int, m api.Mem) {
		if k == 20 {
			m.Cells[layout.Node(l, 1, 0)] = 4
			m.Cells[layout.Node(l, 4, 0)], m.Cells[layout.Node(l, 4, 1)] = 2, 4
		}
	})
	lab.Check(t, did, guardHead+guardFirst+guardThird+"cas node2.0 0 65536\n cas node1.0 2 0 no\n"+
		againHead+againFirst+"load node4.0\n load era\n load node1.0\n load node4.1\n"+
		"load node2.0\n load era\n load node4.0\n load node2.1\n cas node4.0 2 0\n load era\n add era 1\n"+clear3, out, api.Out{Is: true, Point: 19, Gone: [][2]int{{2, 5}}})
	if got := list.Row(l, on, head); !slices.Equal(got, [][2]int{{3, 30}, {4, 0}}) {
		t.Error(got)
	}
	// It is unlinked by somebody else.
	did, _, out = lab.Alone(l, m, list.Next, 0, nil, del(5), func(k int, m api.Mem) {
		if k == 20 {
			m.Cells[layout.Node(l, 1, 0)] = 0
		}
	})
	lab.Check(t, did, guardHead+guardFirst+guardThird+"cas node2.0 0 65536\n cas node1.0 2 0 no\n"+againHead+againFirst+clear3, out, api.Out{Is: true, Point: 19})
}

// Nodes that are out are unlinked by who comes by.
func TestFindUnlinks(t *testing.T) {
	l, m, head := laid(3, 5, 8)
	get, _, _ := ops(head)
	m.Cells[layout.Node(l, 1, 0)] |= marked
	m.Cells[layout.Node(l, 2, 0)] |= marked
	did, on, out := lab.Alone(l, m, list.Next, 0, nil, get(8), nil)
	lab.Check(t, did, guardHead+guardFirst+"cas map0.0 1 2\n load era\n add era 1\n"+
		"load node2.0\n load era\n store resv0.0 6\n load node2.0\n load era\n load map0.0\n load node2.1\n cas map0.0 2 3\n load era\n add era 1\n"+
		"load node3.0\n load era\n store resv0.1 7\n load node3.0\n load era\n load map0.0\n load node3.1\n load node3.2\n"+clear2, out, api.Out{Val: 80, Is: true, Point: 28, Gone: [][2]int{{1, 5}, {2, 6}}})
	if got := list.Nodes(l, on, head); !slices.Equal(got, []int{3}) {
		t.Error(got)
	}
	// Nothing is behind: the point of not finding it is the unlinking.
	m.Cells[layout.Node(l, 2, 0)], m.Cells[layout.Node(l, 1, 0)] = marked, 2
	did, _, out = lab.Alone(l, m, list.Next, 0, nil, get(8), nil)
	lab.Check(t, did, guardHead+guardFirst+guardThird+"cas node1.0 2 0\n load era\n add era 1\n"+clear3, out, api.Out{Point: 19, Gone: [][2]int{{2, 5}}})
	// The unlinking fails: anew from the head, with the slots as in the beginning.
	did, _, out = lab.Alone(l, m, list.Next, 0, nil, get(8), func(k int, m api.Mem) {
		if k == 19 {
			m.Cells[layout.Node(l, 1, 0)] = 0
		}
	})
	lab.Check(t, did, guardHead+guardFirst+guardThird+"cas node1.0 2 0 no\n"+againHead+againFirst+clear3, out, api.Out{Point: 22})
	// The look fails.
	did, _, out = lab.Alone(l, m, list.Next, 0, nil, get(3), func(k int, m api.Mem) {
		if k == 10 {
			m.Cells[head] = 0
		}
	})
	lab.Check(t, did, guardHead+"load node1.0\n load era\n store resv0.1 5\n load node1.0\n load era\n load map0.0\n"+againHead+clear2, out, api.Out{Point: 11})
}

// P19.5
func TestWrong(t *testing.T) {
	l, m, head := laid(3)
	gone := [][2]int{{1, 2}}
	for _, op := range []api.Op{{Kind: 0, Obj: head}, {Kind: api.OPush, Obj: head}, {Kind: api.OGet, Obj: -1}, {Kind: api.OPut, Obj: l.Size}} {
		did, _, out := lab.Alone(l, m, list.Next, 0, gone, op, nil)
		lab.Check(t, did, "", out, api.Out{Err: api.ErrArg, Point: -1, Gone: gone})
	}
}

// A head may be any cell of the layout.
func TestFirstCell(t *testing.T) {
	l, m, _ := laid(3)
	m.Cells[0] = 1
	if _, _, out := lab.Alone(l, m, list.Next, 0, nil, api.Op{Kind: api.OGet, Obj: 0, A: 3}, nil); !out.Is || out.Val != 30 {
		t.Error(out)
	}
	if got := list.Row(l, m, 0); !slices.Equal(got, [][2]int{{3, 30}}) {
		t.Error(got)
	}
	if _, _, out := lab.Alone(l, m, list.Next, 0, nil, api.Op{Kind: api.OGet, Obj: l.Size - 1, A: 3}, nil); out.Is || out.Err != api.OK {
		t.Error(out)
	}
}

// P19.6
func TestMany(t *testing.T) {
	for seed := range 150 {
		dice := lab.Dice(seed)
		l := lab.Of(api.Conf{Seats: 3, Nodes: 25, Buckets: 1, Slots: 1, Tasks: 1, Maps: 1})
		m := lab.Memory(l, arena.Init(l, 1)...)
		m.Cells[l.Era] = 1
		head := layout.Map(l, 0, 0)
		jobs := make([][]api.Op, 3)
		for i := range jobs {
			for range 12 {
				jobs[i] = append(jobs[i], api.Op{Kind: 1 + dice(3), Obj: head, A: 1 + dice(4), B: dice(100)})
			}
		}
		r := lab.Run(l, m, list.Next, jobs, dice)
		if r.Fault != "" {
			t.Fatal(seed, r.Fault)
		}
		want, ok := r.Explain(spec.New(api.KMap), api.KMap, head)
		var row [][2]int
		for i := range want.Keys {
			row = append(row, [2]int{want.Keys[i], want.Vals[i]})
		}
		if got := list.Row(l, r.M, head); !ok || !slices.Equal(got, row) {
			t.Fatal(seed, ok, got, row)
		}
		if !r.Nodes(list.Nodes(l, r.M, head)) {
			t.Fatal(seed, "nodes are lost")
		}
	}
}
