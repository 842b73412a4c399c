package stack_test

import (
	"slices"
	"strconv"
	"testing"

	"underwood/api"
	"underwood/arena"
	"underwood/lab"
	"underwood/layout"
	"underwood/spec"
	"underwood/stack"
	"underwood/word"
)

func laid(nodes int) (api.Layout, api.Mem) {
	l := lab.Of(api.Conf{Seats: 3, Nodes: nodes, Buckets: 1, Slots: 2, Tasks: 1, Stacks: 2})
	m := lab.Memory(l, arena.Init(l, 1)...)
	m.Cells[l.Era] = 5
	return l, m
}

func push(s, a int) api.Op { return api.Op{Kind: api.OPush, Obj: s, A: a} }
func pop(s int) api.Op     { return api.Op{Kind: api.OPop, Obj: s, A: 3, B: 4} }

func ref(idx, cnt int) int { return word.Pack(api.Ref{Idx: idx, Cnt: cnt}) }

// P21.1
func TestRow(t *testing.T) {
	l, m := laid(6)
	m.Cells[layout.Top(l, 1)] = word.Pack(api.Ref{Idx: 3, Mark: true, Cnt: 9})
	for n, x := range map[int][2]int{3: {5, 30}, 5: {2, 50}, 2: {0, -20}} {
		m.Cells[layout.Node(l, n, 0)], m.Cells[layout.Node(l, n, 1)] = x[0], x[1]
	}
	if !slices.Equal(stack.Nodes(l, m, 1), []int{3, 5, 2}) || !slices.Equal(stack.Row(l, m, 1), []int{30, 50, -20}) {
		t.Error(stack.Nodes(l, m, 1), stack.Row(l, m, 1))
	}
	m.Cells[layout.Node(l, 2, 0)] = 5
	if !slices.Equal(stack.Nodes(l, m, 1), []int{3, 5, 2}) {
		t.Error("a node that was told")
	}
	m.Cells[layout.Node(l, 2, 0)] = 7
	if !slices.Equal(stack.Nodes(l, m, 1), []int{3, 5, 2}) {
		t.Error("no such node")
	}
	cut := api.Mem{Cells: m.Cells[:layout.Node(l, 5, 0)]}
	if !slices.Equal(stack.Row(l, cut, 1), []int{30, 0}) {
		t.Error("cells that are not there", stack.Row(l, cut, 1))
	}
	for _, s := range []int{-1, 0, 2} {
		if len(stack.Nodes(l, m, s)) != 0 || len(stack.Row(l, m, s)) != 0 {
			t.Error(s)
		}
	}
}

// P21.2, P21.3, P21.5: alone.
func TestAlone(t *testing.T) {
	l, m := laid(3)
	gone := [][2]int{{9, 9}}
	did, m, out := lab.Alone(l, m, stack.Next, 0, gone, push(1, 50), nil)
	lab.Check(t, did, "load free\n load node1.7\n cas free 1 131074\n load era\n store node1.6 5\n store node1.1 50\n load stack1.0\n store node1.0 0\n cas stack1.0 0 131073", out, api.Out{Is: true, Point: 8, Gone: gone})
	did, m, out = lab.Alone(l, m, stack.Next, 0, nil, push(1, 70), nil)
	lab.Check(t, did, "load free\n load node2.7\n cas free 131074 262147\n load era\n store node2.6 5\n store node2.1 70\n load stack1.0\n store node2.0 1\n cas stack1.0 131073 262146", out, api.Out{Is: true, Point: 8})
	if !slices.Equal(stack.Row(l, m, 1), []int{70, 50}) {
		t.Error(stack.Row(l, m, 1))
	}
	did, m, out = lab.Alone(l, m, stack.Next, 2, nil, pop(1), nil)
	lab.Check(t, did, "load stack1.0\n load era\n store resv2.0 5\n load stack1.0\n load era\n load node2.0\n cas stack1.0 262146 393217\n load node2.1\n store resv2.0 0\n load era\n add era 1", out, api.Out{Val: 70, Is: true, Point: 6, Gone: [][2]int{{2, 5}}})
	did, _, out = lab.Alone(l, m, stack.Next, 2, gone, pop(0), nil)
	lab.Check(t, did, "load stack0.0\n load era\n store resv2.0 6\n load stack0.0\n load era\n store resv2.0 0", out, api.Out{Point: 3, Gone: gone})
	_, m, _ = lab.Alone(l, m, stack.Next, 0, nil, push(0, 1), nil)
	did, _, out = lab.Alone(l, m, stack.Next, 0, gone, push(0, 1), nil)
	lab.Check(t, did, "load free", out, api.Out{Err: api.ErrFull, Gone: gone})
}

func TestPassed(t *testing.T) {
	l, m := laid(6)
	_, m, _ = lab.Alone(l, m, stack.Next, 0, nil, push(0, 50), nil)
	top := layout.Top(l, 0)
	did, on, out := lab.Alone(l, m, stack.Next, 0, nil, push(0, 70), func(k int, m api.Mem) {
		if k == 8 {
			m.Cells[top] = ref(0, 7)
		}
	})
	lab.Check(t, did[6:], "load stack0.0\n store node2.0 1\n cas stack0.0 131073 262146 no\n load stack0.0\n store node2.0 0\n cas stack0.0 "+num(ref(0, 7))+" "+num(ref(2, 8)), out, api.Out{Is: true, Point: 11})
	if !slices.Equal(stack.Row(l, on, 0), []int{70}) {
		t.Error(stack.Row(l, on, 0))
	}
	did, _, out = lab.Alone(l, m, stack.Next, 0, nil, pop(0), func(k int, m api.Mem) {
		if k == 6 {
			m.Cells[top] = ref(0, 7)
		}
	})
	lab.Check(t, did[5:], "load node1.0\n cas stack0.0 131073 262144 no\n load stack0.0\n load era\n store resv0.0 0", out, api.Out{Point: 7})
	// The same node again, but counted: it is another top.
	did, _, out = lab.Alone(l, m, stack.Next, 0, nil, pop(0), func(k int, m api.Mem) {
		if k == 6 {
			m.Cells[top] = ref(1, 3)
			m.Cells[l.Era] = 8
		}
	})
	lab.Check(t, did[5:], "load node1.0\n cas stack0.0 131073 262144 no\n load stack0.0\n load era\n store resv0.0 8\n load stack0.0\n load era\n load node1.0\n cas stack0.0 "+num(ref(1, 3))+" "+num(ref(0, 4))+"\n load node1.1\n store resv0.0 0\n load era\n add era 1", out, api.Out{Val: 50, Is: true, Point: 13, Gone: [][2]int{{1, 8}}})
}

func num(n int) string { return strconv.Itoa(n) }

// P21.4
func TestWrong(t *testing.T) {
	l, m := laid(3)
	gone := [][2]int{{1, 2}}
	for _, op := range []api.Op{push(2, 1), push(-1, 1), pop(2), {Kind: 0}, {Kind: api.OSend}, {Kind: api.OGet}} {
		did, _, out := lab.Alone(l, m, stack.Next, 0, gone, op, nil)
		lab.Check(t, did, "", out, api.Out{Err: api.ErrArg, Point: -1, Gone: gone})
	}
}

// P21.5
func TestMany(t *testing.T) {
	for seed := range 200 {
		dice := lab.Dice(seed)
		l, m := laid(24)
		jobs := make([][]api.Op, 3)
		for i := range jobs {
			for k := range 12 {
				if dice(2) == 0 {
					jobs[i] = append(jobs[i], push(dice(2), 100*i+k))
				} else {
					jobs[i] = append(jobs[i], pop(dice(2)))
				}
			}
		}
		r := lab.Run(l, m, stack.Next, jobs, dice)
		if r.Fault != "" {
			t.Fatal(seed, r.Fault)
		}
		for s := range 2 {
			want, ok := r.Explain(spec.New(api.KStack), api.KStack, s)
			if got := stack.Row(l, r.M, s); !ok || !slices.Equal(got, want.Vals) {
				t.Fatal(seed, ok, got, want)
			}
		}
		if !r.Nodes(slices.Concat(stack.Nodes(l, r.M, 0), stack.Nodes(l, r.M, 1))) {
			t.Fatal(seed, "nodes are lost")
		}
	}
}
