package elim_test

import (
	"reflect"
	"slices"
	"strconv"
	"testing"

	"underwood/api"
	"underwood/arena"
	"underwood/elim"
	"underwood/lab"
	"underwood/layout"
	"underwood/spec"
	"underwood/stack"
	"underwood/word"
)

func laid(nodes, slots int) (api.Layout, api.Mem) {
	l := lab.Of(api.Conf{Seats: 4, Nodes: nodes, Buckets: 1, Slots: slots, Tasks: 1, Stacks: 2})
	m := lab.Memory(l, arena.Init(l, 1)...)
	m.Cells[l.Era] = 5
	return l, m
}

func push(s, a int) api.Op { return api.Op{Kind: api.OPush, Obj: s, A: a} }
func pop(s int) api.Op     { return api.Op{Kind: api.OPop, Obj: s, A: 3, B: 4} }

func ref(idx, cnt int) string       { return strconv.Itoa(word.Pack(api.Ref{Idx: idx, Cnt: cnt})) }
func offer(v, kind, cnt int) string { return strconv.Itoa(word.Offer(v, kind, cnt)) }

func TestSlot(t *testing.T) {
	l, _ := laid(3, 3)
	for _, x := range []struct{ me, s, want int }{
		{0, 0, layout.Slot(l, 0, 0)}, {3, 0, layout.Slot(l, 0, 0)}, {1, 1, layout.Slot(l, 1, 1)}, {2, 1, layout.Slot(l, 1, 2)}, {0, 2, -1}, {0, -1, -1},
	} {
		if got := elim.Slot(l, x.me, x.s); got != x.want {
			t.Error(x, got)
		}
	}
}

// P22.4: alone all is as in chapter 21.
func TestAlone(t *testing.T) {
	l, m := laid(3, 2)
	for i, op := range []api.Op{push(0, 5), push(0, 1<<32-1), pop(0), push(1, 7), push(0, 0), push(0, 1), pop(0), pop(0), pop(0), pop(1)} {
		did, on, out := lab.Alone(l, m, elim.Next, 1, [][2]int{{3, 1}}, op, nil)
		did2, _, out2 := lab.Alone(l, m, stack.Next, 1, [][2]int{{3, 1}}, op, nil)
		if lab.Did(did) != lab.Did(did2) || !reflect.DeepEqual(out, out2) {
			t.Error(i, did, out)
		}
		m = on
	}
}

const trial = "load stack0.0\n store node1.0 0\n cas stack0.0 0 131073 no\n"

// meddle makes the first try at the top fail, and does more ahead of other accesses.
func meddle(l api.Layout, more map[int]func(m api.Mem)) func(k int, m api.Mem) {
	top := layout.Top(l, 0)
	return func(k int, m api.Mem) {
		if k == 8 {
			m.Cells[top] = word.Pack(api.Ref{Cnt: 7})
		}
		if f := more[k]; f != nil {
			f(m)
		}
	}
}

// P22.1
func TestPush(t *testing.T) {
	l, m := laid(3, 2)
	fill := "load free\n load node1.7\n cas free 1 131074\n load era\n store node1.6 5\n store node1.1 50\n"
	// Seat 2 meets in the slot 0, which stack0.1 is.
	slot := layout.Slot(l, 0, 0)
	again := "load stack0.0\n store node1.0 0\n cas stack0.0 " + ref(0, 7) + " " + ref(1, 8) + "\n"
	set := func(v, kind, cnt int) func(m api.Mem) {
		return func(m api.Mem) { m.Cells[slot] = word.Offer(v, kind, cnt) }
	}
	offers := "load stack0.1\n cas stack0.1 0 " + offer(50, 1, 1) + "\n"
	ends := "store stack0.1 " + offer(0, 0, 1) + "\n load free\n store node1.7 2\n cas free 131074 262145\n"
	run := func(what string, did string, want api.Out, more map[int]func(m api.Mem)) {
		t.Helper()
		gone := [][2]int{{3, 3}}
		got, _, out := lab.Alone(l, m, elim.Next, 2, gone, push(0, 50), meddle(l, more))
		want.Gone = gone
		t.Log(what)
		lab.Check(t, got, fill+trial+did, out, want)
	}
	run("nobody comes", offers+"load stack0.1\n load stack0.1\n cas stack0.1 "+offer(50, 1, 1)+" "+offer(0, 0, 1)+"\n"+again, api.Out{Is: true, Point: 16}, nil)
	run("met at the first look", offers+"load stack0.1\n"+ends, api.Out{Is: true, Point: -12}, map[int]func(m api.Mem){11: set(50, 2, 1)})
	run("met at the second look", offers+"load stack0.1\n load stack0.1\n"+ends, api.Out{Is: true, Point: -12}, map[int]func(m api.Mem){12: set(50, 2, 1)})
	run("met at the end", offers+"load stack0.1\n load stack0.1\n cas stack0.1 "+offer(50, 1, 1)+" "+offer(0, 0, 1)+" no\n"+ends, api.Out{Is: true, Point: -12}, map[int]func(m api.Mem){13: set(50, 2, 1)})
	run("somebody else offers", "load stack0.1\n"+again, api.Out{Is: true, Point: 12}, map[int]func(m api.Mem){9: set(9, 1, 4)})
	run("somebody else was met", "load stack0.1\n"+again, api.Out{Is: true, Point: 12}, map[int]func(m api.Mem){9: set(9, 2, 4)})
	run("the offer fails", "load stack0.1\n cas stack0.1 "+offer(0, 0, 4)+" "+offer(50, 1, 5)+" no\n"+again, api.Out{Is: true, Point: 13}, map[int]func(m api.Mem){9: set(0, 0, 4), 10: set(0, 0, 5)})
	m.Cells[slot] = word.Offer(0, 0, 1<<28-1)
	run("counts go round", "load stack0.1\n cas stack0.1 "+offer(0, 0, -1)+" "+offer(50, 1, 0)+"\n load stack0.1\n load stack0.1\n cas stack0.1 "+offer(50, 1, 0)+" 0\n"+again, api.Out{Is: true, Point: 16}, nil)
	got, _, out := lab.Alone(l, m, elim.Next, 2, nil, push(0, 0), meddle(l, nil))
	if !slices.Contains(got, "cas stack0.1 "+offer(0, 0, -1)+" "+offer(0, 1, 0)) || !out.Is {
		t.Error("an offer of 0", got, out)
	}
	m.Cells[l.Free] = 0
	did, _, out := lab.Alone(l, m, elim.Next, 2, nil, push(0, 50), nil)
	lab.Check(t, did, "load free", out, api.Out{Err: api.ErrFull})
}

// P22.2
func TestPop(t *testing.T) {
	l, m := laid(3, 2)
	_, m, _ = lab.Alone(l, m, elim.Next, 0, nil, push(0, 50), nil)
	top, slot := layout.Top(l, 0), layout.Slot(l, 0, 1)
	tried := "load stack0.0\n load era\n store resv3.0 5\n load stack0.0\n load era\n load node1.0\n cas stack0.0 131073 262144 no\n load stack0.2\n"
	fails := func(v, kind int, later bool) func(k int, m api.Mem) {
		return func(k int, m api.Mem) {
			if k == 6 {
				m.Cells[top] = word.Pack(api.Ref{Idx: 1, Cnt: 7})
				m.Cells[slot] = word.Offer(v, kind, 6)
			}
			if k == 8 && later {
				m.Cells[slot] = 0
			}
		}
	}
	again := "load stack0.0\n load era\n load node1.0\n cas stack0.0 " + ref(1, 7) + " " + ref(0, 8) + "\n load node1.1\n store resv3.0 0\n load era\n add era 1\n"
	did, on, out := lab.Alone(l, m, elim.Next, 3, nil, pop(0), fails(77, 1, false))
	lab.Check(t, did, tried+"cas stack0.2 "+offer(77, 1, 6)+" "+offer(77, 2, 6)+"\n store resv3.0 0\n", out, api.Out{Val: 77, Is: true, Point: 8})
	if !slices.Equal(stack.Row(l, on, 0), []int{50}) {
		t.Error("the stack is another one")
	}
	did, _, out = lab.Alone(l, m, elim.Next, 3, nil, pop(0), fails(77, 1, true))
	lab.Check(t, did, tried+"cas stack0.2 "+offer(77, 1, 6)+" "+offer(77, 2, 6)+" no\n"+again, out, api.Out{Val: 50, Is: true, Point: 12, Gone: [][2]int{{1, 5}}})
	for _, kind := range []int{0, 2, 3} {
		did, _, out = lab.Alone(l, m, elim.Next, 3, nil, pop(0), fails(77, kind, false))
		lab.Check(t, did, tried+again, out, api.Out{Val: 50, Is: true, Point: 11, Gone: [][2]int{{1, 5}}})
	}
}

// P22.3
func TestWrong(t *testing.T) {
	l, m := laid(3, 2)
	gone := [][2]int{{1, 2}}
	for _, op := range []api.Op{push(2, 1), push(-1, 1), push(0, -1), push(0, api.Wrap), pop(2), pop(-1), {Kind: 0}, {Kind: api.OSend}, {Kind: api.OGet}} {
		did, _, out := lab.Alone(l, m, elim.Next, 0, gone, op, nil)
		lab.Check(t, did, "", out, api.Out{Err: api.ErrArg, Point: -1, Gone: gone})
	}
}

// P22.4
func TestMany(t *testing.T) {
	met := 0
	for seed := range 300 {
		dice := lab.Dice(seed)
		l, m := laid(40, 1+seed%2)
		jobs := make([][]api.Op, 4)
		for i := range jobs {
			for k := range 10 {
				if dice(2) == 0 {
					jobs[i] = append(jobs[i], push(dice(8)/7, 100*i+k))
				} else {
					jobs[i] = append(jobs[i], pop(dice(8)/7))
				}
			}
		}
		r := lab.Run(l, m, elim.Next, jobs, dice)
		if r.Fault != "" {
			t.Fatal(seed, r.Fault)
		}
		for s := range 2 {
			want, ok := r.Explain(spec.New(api.KStack), api.KStack, s)
			if got := stack.Row(l, r.M, s); !ok || !slices.Equal(got, want.Vals) {
				t.Fatal(seed, ok, got, want)
			}
			for i := range l.Conf.Slots {
				if _, kind, _ := word.Offered(r.M.Cells[layout.Slot(l, s, i)]); kind != 0 {
					t.Fatal(seed, "an offer is left")
				}
			}
		}
		if !r.Nodes(slices.Concat(stack.Nodes(l, r.M, 0), stack.Nodes(l, r.M, 1))) {
			t.Fatal(seed, "nodes are lost")
		}
		for _, e := range r.Events {
			if _, kind, _ := word.Offered(e.Access.New); e.Access.Kind == api.ACas && e.Result.Ok && kind == 2 && e.Access.Cell > l.Stack && e.Access.Cell < l.Chan {
				met++
			}
		}
	}
	if met < 20 {
		t.Error("hardly anybody met", met)
	}
}
