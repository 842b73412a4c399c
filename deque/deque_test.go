package deque_test

import (
	"slices"
	"testing"

	"underwood/api"
	"underwood/deque"
	"underwood/lab"
	"underwood/layout"
	"underwood/ring"
)

// Three seats, rings of 4 and 8 cells.
func two() api.Layout { return lab.Of(api.Conf{Seats: 3, Buckets: 1, Slots: 1, Tasks: 8}) }

func with(l api.Layout, seat, top, bottom, r int) api.Mem {
	m := lab.Memory(l)
	for i, n := range []int{top, bottom, r} {
		m.Cells[layout.Deque(l, seat, i)] = n
	}
	for i := range 8 {
		m.Cells[ring.Place(l, seat, 0, i%4)] = 100 + i%4
		m.Cells[ring.Place(l, seat, 1, i)] = 200 + i
	}
	return m
}

func push(seat, a int) api.Op { return api.Op{Kind: api.OPushD, Obj: seat, A: a} }
func pop(seat int) api.Op     { return api.Op{Kind: api.OPopD, Obj: seat, A: 5, B: 6} }
func steal(seat int) api.Op   { return api.Op{Kind: api.OSteal, Obj: seat, A: 5, B: 6} }

// P18.1 to P18.3, alone. The cells of a seat's rings are ring<seat>.0 to .3, and .4 to .11.
func TestAlone(t *testing.T) {
	l := two()
	gone := [][2]int{{1, 2}}
	for i, x := range []struct {
		m    api.Mem
		op   api.Op
		did  string
		want api.Out
	}{
		{with(l, 0, 0, 0, 0), push(0, 7), "load deque0.1\n load deque0.0\n load deque0.2\n store ring0.0 7\n store deque0.1 1", api.Out{Is: true, Point: 4}},
		{with(l, 1, 3, 6, 0), push(1, 7), "load deque1.1\n load deque1.0\n load deque1.2\n store ring1.2 7\n store deque1.1 7", api.Out{Is: true, Point: 4}},
		{with(l, 1, 3, 7, 0), push(1, 7), `load deque1.1
			load deque1.0
			load deque1.2
			load ring1.3
			store ring1.7 103
			load ring1.0
			store ring1.8 100
			load ring1.1
			store ring1.9 101
			load ring1.2
			store ring1.10 102
			store deque1.2 1
			store ring1.11 7
			store deque1.1 8`, api.Out{Is: true, Point: 13}},
		{with(l, 0, 2, 10, 1), push(0, 7), "load deque0.1\n load deque0.0\n load deque0.2", api.Out{Err: api.ErrRing, Point: -1}},
		{with(l, 0, 2, 9, 1), push(0, 7), "load deque0.1\n load deque0.0\n load deque0.2\n store ring0.5 7\n store deque0.1 10", api.Out{Is: true, Point: 4}},
		{with(l, 0, 2, 3, -1), push(0, 7), "load deque0.1\n load deque0.0\n load deque0.2", api.Out{Err: api.ErrRing, Point: -1}},
		{with(l, 0, 2, 3, 16), push(0, 7), "load deque0.1\n load deque0.0\n load deque0.2", api.Out{Err: api.ErrRing, Point: -1}},
		{with(l, 0, 2, 5, 0), pop(0), "load deque0.1\n store deque0.1 4\n load deque0.0\n load deque0.2\n load ring0.0", api.Out{Val: 100, Is: true, Point: 2}},
		{with(l, 0, 2, 3, 1), pop(0), "load deque0.1\n store deque0.1 2\n load deque0.0\n load deque0.2\n load ring0.6\n cas deque0.0 2 3\n store deque0.1 3", api.Out{Val: 202, Is: true, Point: 5}},
		{with(l, 0, 3, 3, 1), pop(0), "load deque0.1\n store deque0.1 2\n load deque0.0\n store deque0.1 3", api.Out{Point: 2}},
		{with(l, 0, 2, 5, 1), steal(0), "load deque0.0\n load deque0.1\n load deque0.2\n load ring0.6\n cas deque0.0 2 3", api.Out{Val: 202, Is: true, Point: 4}},
		{with(l, 2, 5, 5, 1), steal(2), "load deque2.0\n load deque2.1", api.Out{Err: api.ErrNone, Point: 1}},
		{with(l, 2, 5, 4, 1), steal(2), "load deque2.0\n load deque2.1", api.Out{Err: api.ErrNone, Point: 1}},
		{with(l, 0, 0, 0, 0), push(3, 7), "", api.Out{Err: api.ErrArg, Point: -1}},
		{with(l, 0, 0, 0, 0), pop(-1), "", api.Out{Err: api.ErrArg, Point: -1}},
		{with(l, 0, 0, 0, 0), steal(9), "", api.Out{Err: api.ErrArg, Point: -1}},
		{with(l, 0, 0, 0, 0), api.Op{Kind: api.OPushD - 1}, "", api.Out{Err: api.ErrArg, Point: -1}},
		{with(l, 0, 0, 0, 0), api.Op{Kind: api.OSteal + 1}, "", api.Out{Err: api.ErrArg, Point: -1}},
	} {
		did, _, out := lab.Alone(l, x.m, deque.Next, 2, gone, x.op, nil)
		x.want.Gone = gone
		if lab.Did(did) != lab.Lines(x.did) || !lab.SameOut(out, x.want) {
			t.Errorf("%d: %v\n%s", i, out, lab.Did(did))
		}
	}
}

// P18.2, P18.3: somebody else takes the last one.
func TestPassed(t *testing.T) {
	l := two()
	did, m, out := lab.Alone(l, with(l, 0, 2, 3, 0), deque.Next, 0, nil, pop(0), func(k int, m api.Mem) {
		if k == 5 {
			m.Cells[layout.Deque(l, 0, 0)] = 3
		}
	})
	if lab.Did(did[5:]) != "cas deque0.0 2 3 no\nstore deque0.1 3" || out.Is || out.Val != 0 || out.Err != api.OK || out.Point != 5 || len(ring.Row(l, m, 0)) != 0 {
		t.Error(did, out)
	}
	did, _, out = lab.Alone(l, with(l, 0, 2, 5, 0), deque.Next, 1, nil, steal(0), func(k int, m api.Mem) {
		if k == 4 {
			m.Cells[layout.Deque(l, 0, 0)] = 3
		}
	})
	if lab.Did(did[4:]) != "cas deque0.0 2 3 no" || out.Is || out.Val != 0 || out.Err != api.OK || out.Point != 4 {
		t.Error(did, out)
	}
}

// P18.5: what is pushed is taken once, or there; steals take it in order.
func TestMany(t *testing.T) {
	l := two()
	for seed := range 200 {
		dice := lab.Dice(seed)
		jobs := make([][]api.Op, 3)
		pushed := 0
		for range 24 {
			if dice(5) < 3 {
				pushed++
				jobs[0] = append(jobs[0], push(0, pushed))
			} else {
				jobs[0] = append(jobs[0], pop(0))
			}
			jobs[1] = append(jobs[1], steal(0))
			if seed%2 == 0 {
				jobs[2] = append(jobs[2], steal(0))
			}
		}
		r := lab.Run(l, with(l, 0, 0, 0, 0), deque.Next, jobs, dice)
		if r.Fault != "" {
			t.Fatal(seed, r.Fault)
		}
		var had, stolen []int
		refused := map[int]bool{}
		for i, c := range r.Calls {
			switch {
			case r.Errs[i] == api.ErrRing:
				refused[c.Op.A] = true
			case c.Op.Kind != api.OPushD && c.Is:
				had = append(had, c.Val)
				if c.Op.Kind == api.OSteal {
					stolen = append(stolen, c.Point*1000+c.Val)
				}
			case c.Op.Kind == api.OSteal && r.Errs[i] == api.OK:
				if e := r.Events[c.Point]; e.Access.Kind != api.ACas || e.Result.Ok {
					t.Error(seed, "nothing was stolen, though nobody was ahead")
				}
			}
		}
		had = append(had, ring.Row(l, r.M, 0)...)
		for n := range refused {
			had = append(had, n)
		}
		slices.Sort(had)
		for i, n := range had {
			if n != i+1 {
				t.Fatal(seed, had)
			}
		}
		if len(had) != pushed {
			t.Fatal(seed, had, pushed)
		}
		slices.Sort(stolen)
		for i := 1; i < len(stolen); i++ {
			if stolen[i-1]%1000 >= stolen[i]%1000 {
				t.Error(seed, "steals are out of order", stolen)
			}
		}
	}
}
