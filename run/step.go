package run

import (
	"underwood/api"
	"underwood/mem"
	"underwood/seat"
)

// step makes the next access of a worker that may, and all turns that come of it.
func step(s *api.State, worker int) {
	k := s.Sits[worker]
	on := s.Seats[k]
	if on.Op.Kind == api.OAdopt && on.Op.B != worker {
		// Who died here wanted to sit down elsewhere: that is begun anew by who sits here now.
		on.Op.B, on.Log, on.Steps = worker, nil, nil
	}
	if a, _, done := seat.Prog(s.Layout, k, on.Gone, on.Op, on.Log); !done {
		m, told, err := mem.Do(s.Mem, a)
		if err != api.OK {
			s.Over, s.Err = true, err
			return
		}
		on.Log = append(on.Log, told)
		on.Steps = append(on.Steps, len(s.Events))
		s.Mem = m
		s.Events = append(s.Events, api.Event{Worker: worker, Seat: k, Access: a, Result: told})
	}
	s.Seats[k] = on
turns:
	for !s.Over {
		on := s.Seats[k]
		_, out, done := seat.Prog(s.Layout, k, on.Gone, on.Op, on.Log)
		if !done {
			break turns
		}
		if on.Op.Kind >= api.OGet && on.Op.Kind <= api.ORecv {
			s.Calls = append(s.Calls, call(k, on, out))
		}
		t := seat.Turn(s.Code, s.Layout, on, s.Frames, k, worker, out)
		s.Seats[k], s.Frames, s.Sits[worker] = t.Seat, t.Frames, t.Sits
		s.Over, s.Err, s.Value = t.Over, t.Err, t.Value
	}
}

// call is an operation that a seat is through with.
func call(k int, on api.Seat, out api.Out) api.Call {
	c := api.Call{Who: k, Op: on.Op, Val: out.Val, Is: out.Is, Point: point(on.Steps, out.Point)}
	if n := len(on.Steps); n > 0 {
		c.First, c.Last = on.Steps[0], on.Steps[n-1]
	}
	return c
}

// point is an operation's point by events: of an offer that was met minus the offer's, less 2.
func point(steps []int, p int) int {
	switch {
	case p >= 0 && p < len(steps):
		return steps[p]
	case p < -1 && -p-2 >= 0 && -p-2 < len(steps):
		return -steps[-p-2] - 2
	}
	return -1
}
