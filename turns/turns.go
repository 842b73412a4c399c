// Package turns is a run that goes on, access by access, in lists of its own: layer 31 hands it on as states, layer 33 makes it again from a trace.
package turns

import (
	"slices"

	"underwood/api"
	"underwood/layout"
	"underwood/mem"
	"underwood/seat"
)

// Run is a run that goes on.
type Run struct{ api.State }

// Of is a run that goes on from a state, and writes into nothing of it: what it turns is copied, and what it puts behind lists goes into new memory.
func Of(s api.State) *Run {
	s.Mem.Cells = slices.Clone(s.Mem.Cells)
	s.Seats = slices.Clone(s.Seats)
	for i := range s.Seats {
		s.Seats[i].Log, s.Seats[i].Steps = slices.Clip(s.Seats[i].Log), slices.Clip(s.Seats[i].Steps)
	}
	s.Sits, s.Alive = slices.Clone(s.Sits), slices.Clone(s.Alive)
	s.Events, s.Calls = slices.Clip(s.Events), slices.Clip(s.Calls)
	return &Run{s}
}

// may tells whether a worker can do something.
func (s *Run) may(worker int) bool {
	return !s.Over && worker >= 0 && worker < len(s.Alive) && s.Alive[worker] &&
		worker < len(s.Sits) && s.Sits[worker] >= 0 && s.Sits[worker] < len(s.Seats)
}

// Die lets a worker die, if somebody else is alive.
func (s *Run) Die(worker int) {
	alive := 0
	for _, is := range s.Alive {
		if is {
			alive++
		}
	}
	if !s.may(worker) || alive < 2 {
		return
	}
	s.Alive[worker] = false
	if cell := layout.Alive(s.Layout, worker); cell >= 0 && cell < len(s.Mem.Cells) {
		s.Mem.Cells[cell] = 0
	}
	s.Events = append(s.Events, api.Event{Worker: worker, Seat: s.Sits[worker]})
}

// Step makes a worker's next access, and all turns that come of it.
func (s *Run) Step(worker int) {
	if !s.may(worker) {
		return
	}
	k := s.Sits[worker]
	on := s.Seats[k]
	if on.Op.Kind == api.OAdopt && on.Op.B != worker {
		// Who died here wanted to sit down elsewhere: that is begun anew by who sits here now.
		on.Op.B, on.Log, on.Steps = worker, nil, nil
	}
	if a, _, done := seat.Prog(s.Layout, k, on.Gone, on.Op, on.Log); !done {
		m, told, err := mem.Do(s.Mem, a)
		if err != api.OK {
			s.Over, s.Err = true, err
			return
		}
		on.Log = append(on.Log, told)
		on.Steps = append(on.Steps, len(s.Events))
		s.Mem = m
		s.Events = append(s.Events, api.Event{Worker: worker, Seat: k, Access: a, Result: told})
	}
	s.Seats[k] = on
turns:
	for !s.Over {
		on := s.Seats[k]
		_, out, done := seat.Prog(s.Layout, k, on.Gone, on.Op, on.Log)
		if !done {
			break turns
		}
		if on.Op.Kind >= api.OGet && on.Op.Kind <= api.ORecv {
			s.Calls = append(s.Calls, call(k, on, out))
		}
		t := seat.Turn(s.Code, s.Layout, on, s.Frames, k, worker, out)
		s.Seats[k], s.Frames, s.Sits[worker] = t.Seat, t.Frames, t.Sits
		s.Over, s.Err, s.Value = t.Over, t.Err, t.Value
	}
}

// call is an operation that a seat is through with.
func call(k int, on api.Seat, out api.Out) api.Call {
	c := api.Call{Who: k, Op: on.Op, Val: out.Val, Is: out.Is, Point: point(on.Steps, out.Point)}
	if n := len(on.Steps); n > 0 {
		c.First, c.Last = on.Steps[0], on.Steps[n-1]
	}
	return c
}

// point is an operation's point by events: of an offer that was met minus the offer's, less 2.
func point(steps []int, p int) int {
	switch {
	case p >= 0 && p < len(steps):
		return steps[p]
	case p < -1 && -p-2 >= 0 && -p-2 < len(steps):
		return -steps[-p-2] - 2
	}
	return -1
}
