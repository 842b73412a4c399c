package segment_test

import (
	"slices"
	"strconv"
	"testing"

	"underwood/api"
	"underwood/arena"
	"underwood/lab"
	"underwood/layout"
	"underwood/segment"
	"underwood/spec"
	"underwood/word"
)

func laid(nodes int) (api.Layout, api.Mem) {
	l := lab.Of(api.Conf{Seats: 3, Nodes: nodes, Buckets: 1, Slots: 1, Tasks: 1, Chans: 2})
	m := lab.Memory(l, slices.Concat(segment.Init(l, 0, 1), segment.Init(l, 1, 2), arena.Init(l, 3))...)
	m.Cells[l.Era] = 5
	return l, m
}

func send(c, a int) api.Op { return api.Op{Kind: api.OSend, Obj: c, A: a, B: 4} }
func recv(c int) api.Op    { return api.Op{Kind: api.ORecv, Obj: c, A: 3, B: 4} }

func ref(idx, cnt int) int     { return word.Pack(api.Ref{Idx: idx, Cnt: cnt}) }
func text(idx, cnt int) string { return strconv.Itoa(ref(idx, cnt)) }

// P23.1
func TestInit(t *testing.T) {
	l, _ := laid(6)
	var want []api.Access
	for i := range 6 {
		want = append(want, api.Access{Kind: api.AStore, Cell: layout.Node(l, 5, i)})
	}
	want = append(want, api.Access{Kind: api.AStore, Cell: layout.Head(l, 1), New: 5}, api.Access{Kind: api.AStore, Cell: layout.Tail(l, 1), New: 5})
	if got := segment.Init(l, 1, 5); !slices.Equal(got, want) {
		t.Error(got)
	}
	for _, x := range [][2]int{{2, 1}, {-1, 1}, {0, 0}, {0, 7}} {
		if got := segment.Init(l, x[0], x[1]); len(got) != 0 {
			t.Error(x, got)
		}
	}
}

func TestRow(t *testing.T) {
	l, m := laid(6)
	m.Cells[layout.Head(l, 1)] = word.Pack(api.Ref{Idx: 4, Mark: true, Cnt: 8})
	for n, x := range map[int][]int{4: {2, 1, 1, 30, 1, 2}, 2: {6, 3, 40, 0, 41, 0}, 6: {0, 0, 0, 0, 0, 9}} {
		for i, v := range x {
			m.Cells[layout.Node(l, n, i)] = v
		}
	}
	if !slices.Equal(segment.Nodes(l, m, 1), []int{4, 2, 6}) || !slices.Equal(segment.Row(l, m, 1), []int{28, 0, 1, 38, 39, 7}) {
		t.Error(segment.Nodes(l, m, 1), segment.Row(l, m, 1))
	}
	m.Cells[layout.Node(l, 6, 0)] = 2
	if !slices.Equal(segment.Nodes(l, m, 1), []int{4, 2, 6}) {
		t.Error("a node that was told")
	}
	m.Cells[layout.Node(l, 6, 0)] = 7
	if !slices.Equal(segment.Nodes(l, m, 1), []int{4, 2, 6}) {
		t.Error("no such node")
	}
	cut := api.Mem{Cells: m.Cells[:layout.Node(l, 4, 5)]}
	if !slices.Equal(segment.Nodes(l, cut, 1), []int{4, 2, 6}) || !slices.Equal(segment.Row(l, cut, 1), []int{28, 1, 38, 39}) {
		t.Error("cells that are not there", segment.Nodes(l, cut, 1), segment.Row(l, cut, 1))
	}
	for _, c := range []int{-1, 2} {
		if len(segment.Nodes(l, m, c)) != 0 || len(segment.Row(l, m, c)) != 0 {
			t.Error(c)
		}
	}
}

const (
	guardTail = "load chan0.1\n load era\n store resv0.0 5\n load chan0.1\n load era\n"
	guardHead = "load chan0.0\n load era\n store resv0.0 5\n load chan0.0\n load era\n"
	clear1    = "store resv0.0 0\n"
	allOf1    = "load node1.1\n load node1.2\n load node1.3\n load node1.4\n load node1.5\n"
	take3     = "load free\n load node3.7\n cas free 3 131076\n load era\n store node3.6 5\n"
	begin3    = "store node3.0 0\n store node3.1 9\n store node3.2 0\n store node3.3 0\n store node3.4 0\n store node3.5 0\n"
)

// P23.2, P23.3: in one segment.
func TestAlone(t *testing.T) {
	l, m := laid(4)
	gone := [][2]int{{4, 1}}
	did, _, out := lab.Alone(l, m, segment.Next, 0, gone, recv(0), nil)
	lab.Check(t, did, guardHead+"load node1.1\n"+clear1, out, api.Out{Point: 5, Gone: gone})
	did, m, out = lab.Alone(l, m, segment.Next, 0, gone, send(0, 5), nil)
	lab.Check(t, did, guardTail+"load node1.1\n cas node1.1 0 7\n"+clear1, out, api.Out{Is: true, Point: 6, Gone: gone})
	did, m, out = lab.Alone(l, m, segment.Next, 0, nil, send(0, 0), nil)
	lab.Check(t, did, guardTail+"load node1.1\n load node1.2\n cas node1.2 0 2\n"+clear1, out, api.Out{Is: true, Point: 7})
	if !slices.Equal(segment.Row(l, m, 0), []int{5, 0}) {
		t.Error(segment.Row(l, m, 0))
	}
	did, m, out = lab.Alone(l, m, segment.Next, 0, nil, recv(0), nil)
	lab.Check(t, did, guardHead+"load node1.1\n cas node1.1 7 1\n"+clear1, out, api.Out{Val: 5, Is: true, Point: 6})
	did, m, out = lab.Alone(l, m, segment.Next, 0, nil, recv(0), nil)
	lab.Check(t, did, guardHead+"load node1.1\n load node1.2\n cas node1.2 2 1\n"+clear1, out, api.Out{Val: 0, Is: true, Point: 7})
	did, _, out = lab.Alone(l, m, segment.Next, 0, nil, recv(0), nil)
	lab.Check(t, did, guardHead+"load node1.1\n load node1.2\n load node1.3\n"+clear1, out, api.Out{Point: 7})
}

// full is a channel whose first segment has been filled with 0, 1, ..
func full(t *testing.T) (api.Layout, api.Mem) {
	l, m := laid(4)
	for i := range segment.Room {
		_, on, out := lab.Alone(l, m, segment.Next, 0, nil, send(0, i), nil)
		if !out.Is {
			t.Fatal(out)
		}
		m = on
	}
	return l, m
}

// P23.2: a segment more.
func TestSendMore(t *testing.T) {
	l, m := full(t)
	did, on, out := lab.Alone(l, m, segment.Next, 0, nil, send(0, 7), nil)
	lab.Check(t, did, guardTail+allOf1+"load node1.0\n"+take3+begin3+"cas node1.0 0 3\n cas chan0.1 1 131075\n"+clear1, out, api.Out{Is: true, Point: 22})
	if !slices.Equal(segment.Row(l, on, 0), []int{0, 1, 2, 3, 4, 7}) {
		t.Error(segment.Row(l, on, 0))
	}
	// The tail stands ahead of the last one.
	on.Cells[layout.Tail(l, 0)] = 1
	did, _, out = lab.Alone(l, on, segment.Next, 0, nil, send(0, 8), nil)
	lab.Check(t, did, guardTail+allOf1+"load node1.0\n cas chan0.1 1 131075\n load chan0.1\n load era\n load node3.1\n load node3.2\n cas node3.2 0 10\n"+clear1, out, api.Out{Is: true, Point: 16})
	on.Cells[layout.Tail(l, 0)] = 1
	did, _, out = lab.Alone(l, on, segment.Next, 0, nil, send(0, 8), func(k int, m api.Mem) {
		if k == 11 {
			m.Cells[layout.Tail(l, 0)] = ref(3, 9)
		}
	})
	lab.Check(t, did, guardTail+allOf1+"load node1.0\n cas chan0.1 1 131075 no\n load chan0.1\n load era\n load node3.1\n load node3.2\n cas node3.2 0 10\n"+clear1, out, api.Out{Is: true, Point: 16})
	m.Cells[l.Free] = 0
	did, _, out = lab.Alone(l, m, segment.Next, 0, nil, send(0, 7), nil)
	lab.Check(t, did, guardTail+allOf1+"load node1.0\n load free\n"+clear1, out, api.Out{Err: api.ErrFull, Point: 11})
}

func TestSendPassed(t *testing.T) {
	l, m := laid(4)
	did, _, out := lab.Alone(l, m, segment.Next, 0, nil, send(0, 7), func(k int, m api.Mem) {
		if k == 6 {
			m.Cells[layout.Node(l, 1, 1)] = 50
		}
	})
	lab.Check(t, did, guardTail+"load node1.1\n cas node1.1 0 9 no\n load node1.2\n cas node1.2 0 9\n"+clear1, out, api.Out{Is: true, Point: 8})
	// Somebody else puts the node 4 behind: the one that was taken is given back.
	l, m = full(t)
	did, on, out := lab.Alone(l, m, segment.Next, 0, nil, send(0, 7), func(k int, m api.Mem) {
		if k == 22 {
			m.Cells[layout.Node(l, 1, 0)], m.Cells[layout.Node(l, 4, 1)] = 4, 50
		}
	})
	lab.Check(t, did, guardTail+allOf1+"load node1.0\n"+take3+begin3+"cas node1.0 0 3 no\n load chan0.1\n load era\n"+allOf1+"load node1.0\n cas chan0.1 1 131076\n"+
		"load chan0.1\n load era\n load node4.1\n load node4.2\n cas node4.2 0 9\n load free\n store node3.7 4\n cas free 131076 262147\n"+clear1, out, api.Out{Is: true, Point: 36})
	if !slices.Equal(arena.List(l, on)[:1], []int{3}) {
		t.Error("the node is lost")
	}
	// Somebody else puts one behind, and it is full, too: the node isn't taken anew.
	did, _, out = lab.Alone(l, m, segment.Next, 0, nil, send(0, 7), func(k int, m api.Mem) {
		if k == 22 {
			m.Cells[layout.Node(l, 1, 0)] = 4
			for i := 1; i <= 5; i++ {
				m.Cells[layout.Node(l, 4, i)] = 50
			}
		}
	})
	lab.Check(t, did[31:], "cas chan0.1 1 131076\n load chan0.1\n load era\n load node4.1\n load node4.2\n load node4.3\n load node4.4\n load node4.5\n load node4.0\n cas node4.0 0 3\n cas chan0.1 131076 262147\n"+clear1, out, api.Out{Is: true, Point: 40})
	// The tail was led on by somebody else.
	did, _, out = lab.Alone(l, m, segment.Next, 0, nil, send(0, 7), func(k int, m api.Mem) {
		if k == 23 {
			m.Cells[layout.Tail(l, 0)] = ref(3, 9)
		}
	})
	lab.Check(t, did[22:], "cas node1.0 0 3\n cas chan0.1 1 131075 no\n"+clear1, out, api.Out{Is: true, Point: 22})
}

// P23.3: from one segment into the next one.
func TestRecvMore(t *testing.T) {
	l, m := full(t)
	for range segment.Room {
		_, m, _ = lab.Alone(l, m, segment.Next, 0, nil, recv(0), nil)
	}
	did, _, out := lab.Alone(l, m, segment.Next, 0, nil, recv(0), nil)
	lab.Check(t, did, guardHead+allOf1+"load node1.0\n"+clear1, out, api.Out{Point: 10})
	_, m, _ = lab.Alone(l, m, segment.Next, 0, nil, send(0, 7), nil)
	gone := [][2]int{{4, 1}}
	did, _, out = lab.Alone(l, m, segment.Next, 0, gone, recv(0), nil)
	after := "load chan0.0\n load era\n store resv0.0 6\n load chan0.0\n load era\n load node3.1\n cas node3.1 9 1\n" + clear1
	lab.Check(t, did, guardHead+allOf1+"load node1.0\n load chan0.1\n cas chan0.0 1 131075\n"+clear1+"load era\n add era 1\n"+after, out, api.Out{Val: 7, Is: true, Point: 22, Gone: [][2]int{{4, 1}, {1, 5}}})
	// The tail stands at the segment yet.
	m.Cells[layout.Tail(l, 0)] = ref(1, 5)
	did, _, _ = lab.Alone(l, m, segment.Next, 0, nil, recv(0), nil)
	lab.Check(t, did[:16], guardHead+allOf1+"load node1.0\n load chan0.1\n cas chan0.1 "+text(1, 5)+" "+text(3, 6)+"\n cas chan0.0 1 131075\n"+clear1+"load era\n", out, out)
	// The head was led on by somebody else.
	did, _, out = lab.Alone(l, m, segment.Next, 0, nil, recv(0), func(k int, m api.Mem) {
		if k == 12 {
			m.Cells[layout.Head(l, 0)], m.Cells[layout.Tail(l, 0)] = ref(3, 9), ref(3, 9)
		}
	})
	lab.Check(t, did[12:], "cas chan0.1 "+text(1, 5)+" "+text(3, 6)+" no\n cas chan0.0 1 131075 no\n load chan0.0\n load era\n load node3.1\n cas node3.1 9 1\n"+clear1, out, api.Out{Val: 7, Is: true, Point: 17})
}

func TestRecvPassed(t *testing.T) {
	l, m := full(t)
	did, _, out := lab.Alone(l, m, segment.Next, 0, nil, recv(0), func(k int, m api.Mem) {
		if k == 6 {
			m.Cells[layout.Node(l, 1, 1)] = 1
		}
	})
	lab.Check(t, did, guardHead+"load node1.1\n cas node1.1 2 1 no\n load node1.2\n cas node1.2 3 1\n"+clear1, out, api.Out{Val: 1, Is: true, Point: 8})
}

// P23.4
func TestWrong(t *testing.T) {
	l, m := laid(3)
	gone := [][2]int{{1, 2}}
	for _, op := range []api.Op{send(2, 1), send(-1, 1), recv(2), {Kind: 0}, {Kind: api.OPush}, {Kind: api.OGet}} {
		did, _, out := lab.Alone(l, m, segment.Next, 0, gone, op, nil)
		lab.Check(t, did, "", out, api.Out{Err: api.ErrArg, Point: -1, Gone: gone})
	}
}

// P23.5, P23.6
func TestMany(t *testing.T) {
	for seed := range 200 {
		dice := lab.Dice(seed)
		l, m := laid(24)
		m.Cells[l.Era] = 1
		jobs := make([][]api.Op, 3)
		for i := range jobs {
			for k := range 14 {
				if dice(5) < 3 {
					jobs[i] = append(jobs[i], send(dice(6)/5, 100*i+k))
				} else {
					jobs[i] = append(jobs[i], recv(dice(6)/5))
				}
			}
		}
		r := lab.Run(l, m, segment.Next, jobs, dice)
		if r.Fault != "" {
			t.Fatal(seed, r.Fault)
		}
		for c := range 2 {
			want, ok := r.Explain(spec.New(api.KChan), api.KChan, c)
			if got := segment.Row(l, r.M, c); !ok || !slices.Equal(got, want.Vals) {
				t.Fatal(seed, ok, got, want)
			}
			if !slices.Contains(segment.Nodes(l, r.M, c), word.Of(r.M.Cells[layout.Tail(l, c)]).Idx) {
				t.Fatal(seed, "the tail stands behind the head")
			}
		}
		if !r.Nodes(slices.Concat(segment.Nodes(l, r.M, 0), segment.Nodes(l, r.M, 1))) {
			t.Fatal(seed, "nodes are lost")
		}
	}
}
