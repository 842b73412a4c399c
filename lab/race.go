package lab

import (
	"slices"

	"underwood/api"
	"underwood/arena"
	"underwood/mem"
	"underwood/spec"
	"underwood/word"
)

// Race is what came of operations that took turns.
type Race struct {
	L      api.Layout
	M      api.Mem
	Events []api.Event
	Calls  []api.Call
	Gone   [][][2]int // by seats
	Errs   []api.Errno
	Fault  string // the first thing that may not be
}

// seat is one that does its operations, one behind the other.
type seat struct {
	ops   []api.Op
	log   []api.Result
	steps []int
}

// Run lets seats do operations, each its own ones in order, turn by turn as dice say.
func Run(l api.Layout, m api.Mem, next Next, jobs [][]api.Op, dice func(n int) int) *Race {
	r := &Race{L: l, M: m, Gone: make([][][2]int, len(jobs))}
	seats := make([]seat, len(jobs))
	for i := range seats {
		seats[i].ops = jobs[i]
	}
	for len(r.Events) < 200000 && r.Fault == "" {
		var on []int
		for i := range seats {
			r.finish(next, i, &seats[i])
			if len(seats[i].ops) > 0 {
				on = append(on, i)
			}
		}
		if len(on) == 0 {
			return r
		}
		// Some turns go to one seat on end, so that others stand still in the midst of theirs.
		me := on[dice(len(on))]
		for range 1 + dice(4)*dice(4) {
			if len(seats[me].ops) == 0 || r.Fault != "" {
				break
			}
			r.step(next, me, &seats[me])
			r.finish(next, me, &seats[me])
		}
	}
	if r.Fault == "" {
		r.Fault = "no end"
	}
	return r
}

func (r *Race) step(next Next, me int, s *seat) {
	a, _, done := next(r.L, me, r.Gone[me], s.ops[0], s.log)
	if done {
		return
	}
	if n := (a.Cell - r.L.Node) / 8; a.Cell >= r.L.Node && (a.Cell-r.L.Node)%8 < 7 && slices.Contains(arena.List(r.L, r.M), n+1) {
		r.Fault = "a free node is touched: " + Text(r.L, a, api.Result{Ok: true})
	}
	m, told, err := mem.Do(r.M, a)
	if err != api.OK {
		r.Fault = "an access that can't be"
		return
	}
	r.M = m
	s.log = append(s.log, told)
	s.steps = append(s.steps, len(r.Events))
	r.Events = append(r.Events, api.Event{Worker: me, Seat: me, Access: a, Result: told})
}

// finish takes down operations of a seat that are done.
func (r *Race) finish(next Next, me int, s *seat) {
	for len(s.ops) > 0 {
		_, out, done := next(r.L, me, r.Gone[me], s.ops[0], s.log)
		if !done {
			return
		}
		c := api.Call{Who: me, Op: s.ops[0], Val: out.Val, Is: out.Is, Point: -1}
		if n := len(s.steps); n > 0 {
			c.First, c.Last = s.steps[0], s.steps[n-1]
		}
		switch {
		case out.Point >= 0 && out.Point < len(s.steps):
			c.Point = s.steps[out.Point]
		case out.Point < -1 && -2-out.Point < len(s.steps):
			c.Point = r.taken(me, s.steps[-2-out.Point], c.Last)
		}
		r.Calls = append(r.Calls, c)
		r.Errs = append(r.Errs, out.Err)
		r.Gone[me] = out.Gone
		*s = seat{ops: s.ops[1:]}
	}
}

// taken is the step at which an offer was taken.
func (r *Race) taken(me, offer, last int) int {
	for k := offer + 1; k <= last; k++ {
		e := r.Events[k]
		if e.Seat != me && e.Access.Kind == api.ACas && e.Result.Ok && e.Access.Cell == r.Events[offer].Access.Cell {
			return k
		}
	}
	return -1
}

// Explain does calls of one object in the order of their points, and tells what they make, and whether each told what that does. Those that were told a code don't count.
func (r *Race) Explain(c api.Content, kind, obj int) (api.Content, bool) {
	var calls []api.Call
	for i, x := range r.Calls {
		if spec.Of(x.Op.Kind) == kind && x.Op.Obj == obj && r.Errs[i] == api.OK {
			calls = append(calls, x)
		}
	}
	slices.SortStableFunc(calls, func(a, b api.Call) int {
		if a.Point != b.Point {
			return a.Point - b.Point
		}
		return a.Op.Kind%2 - b.Op.Kind%2 // what puts in has an even number
	})
	for _, x := range calls {
		if x.Point < x.First || x.Point > x.Last {
			return c, false
		}
		on, val, is := spec.Do(c, x.Op)
		if val != x.Val || is != x.Is {
			return c, false
		}
		c = on
	}
	return c, true
}

// Nodes tells whether each node but those that are had otherwise is free or gone, once.
func (r *Race) Nodes(had []int) bool {
	all := append(slices.Clone(had), arena.List(r.L, r.M)...)
	for _, gone := range r.Gone {
		for _, g := range gone {
			all = append(all, g[0])
		}
	}
	slices.Sort(all)
	for i, n := range all {
		if n != i+1 {
			return false
		}
	}
	return len(all) == r.L.Conf.Nodes
}

// Free is the pointer of the list of free nodes.
func Free(l api.Layout, m api.Mem) api.Ref { return word.Of(m.Cells[l.Free]) }
