package seat_test

import (
	"reflect"
	"testing"

	"underwood/api"
	"underwood/deque"
	"underwood/lab"
	"underwood/layout"
	"underwood/obj"
	"underwood/seat"
	"underwood/task"
	"underwood/vm"
)

func laid() (api.Layout, api.Mem) {
	l := lab.Of(api.Conf{Seats: 3, Nodes: 10, Buckets: 1, Slots: 1, Tasks: 5, Cells: 2, Maps: 1, Stacks: 1, Chans: 1})
	m := lab.Memory(l, obj.Init(l)...)
	for i := range 3 {
		m.Cells[layout.Alive(l, i)], m.Cells[layout.Owner(l, i)] = 1, i
	}
	return l, m
}

// P30.1: programs of other layers.
func TestProgOfOthers(t *testing.T) {
	l, m := laid()
	gone := [][2]int{{9, 1}}
	for kind := api.OGet; kind <= api.OFetch; kind++ {
		of := obj.Next
		if kind >= api.OPushD {
			of = deque.Next
		}
		if kind >= api.OMake {
			of = task.Next
		}
		for _, op := range []api.Op{{Kind: kind, A: 1, B: 7}, {Kind: kind, Obj: 1, A: 5}, {Kind: kind, Obj: 9, A: 9}, {Kind: kind, Obj: -1, A: -1}} {
			did, _, out := lab.Alone(l, m, seat.Prog, 1, gone, op, nil)
			did2, _, out2 := lab.Alone(l, m, of, 1, gone, op, nil)
			if lab.Did(did) != lab.Did(did2) || !lab.SameOut(out, out2) {
				t.Error(op, did, out)
			}
		}
	}
}

// P30.1: its own.
func TestProg(t *testing.T) {
	l, m := laid()
	m.Cells[layout.Alive(l, 2)], m.Cells[layout.Cell(l, 1)] = 0, 88
	wild := api.Mem{Cells: append([]int(nil), m.Cells...)}
	wild.Cells[layout.Owner(l, 2)] = 7
	gone := [][2]int{{9, 1}}
	for i, x := range []struct {
		m    api.Mem
		op   api.Op
		did  string
		want api.Out
	}{
		{m, api.Op{Kind: api.OAdopt, A: 2, B: 0}, "load owner2\n load alive2\n cas owner2 2 0", api.Out{Is: true, Point: 2}},
		{m, api.Op{Kind: api.OAdopt, A: 1, B: 0}, "load owner1\n load alive1", api.Out{Point: 1}},
		{m, api.Op{Kind: api.OAdopt, A: 2, B: 2}, "load owner2", api.Out{Point: 0}},
		{wild, api.Op{Kind: api.OAdopt, A: 2, B: 0}, "load owner2", api.Out{Point: 0}},
		{m, api.Op{Kind: api.ORead, A: 1, B: 5}, "load cell1", api.Out{Val: 88}},
		{m, api.Op{Kind: api.OWrite, A: 1, B: 5}, "store cell1 5", api.Out{}},
		{m, api.Op{Kind: api.ORead, A: 2}, "", api.Out{Err: api.ErrArg, Point: -1}},
		{m, api.Op{Kind: api.OWrite, A: -1}, "", api.Out{Err: api.ErrArg, Point: -1}},
		{m, api.Op{Kind: api.OAdopt, A: 3, B: 0}, "", api.Out{Err: api.ErrArg, Point: -1}},
		{m, api.Op{Kind: api.OAdopt, A: -1, B: 0}, "", api.Out{Err: api.ErrArg, Point: -1}},
		{m, api.Op{Kind: api.OAdopt, A: 2, B: 3}, "", api.Out{Err: api.ErrArg, Point: -1}},
		{m, api.Op{Kind: api.OAdopt, A: 2, B: -1}, "", api.Out{Err: api.ErrArg, Point: -1}},
		{m, api.Op{Kind: 0}, "", api.Out{Err: api.ErrArg, Point: -1}},
		{m, api.Op{Kind: api.OWrite + 1}, "", api.Out{Err: api.ErrArg, Point: -1}},
	} {
		did, _, out := lab.Alone(l, x.m, seat.Prog, 0, gone, x.op, nil)
		x.want.Gone = gone
		if lab.Did(did) != lab.Lines(x.did) || !lab.SameOut(out, x.want) {
			t.Errorf("%d: %v\n%s", i, out, lab.Did(did))
		}
	}
	did, _, out := lab.Alone(l, m, seat.Prog, 0, gone, api.Op{Kind: api.OAdopt, A: 2, B: 0}, func(k int, m api.Mem) {
		if k == 2 {
			m.Cells[layout.Owner(l, 2)] = 1
		}
	})
	if did[2] != "cas owner2 2 0 no" || out.Is || out.Point != 2 {
		t.Error(did, out)
	}
}

// P30.2
func TestSeek(t *testing.T) {
	l, _ := laid()
	for at, want := range []api.Op{
		{Kind: api.OPopD, Obj: 1}, {Kind: api.OSteal, Obj: 2}, {Kind: api.OSteal, Obj: 0}, {Kind: api.OAdopt, A: 2, B: 9}, {Kind: api.OAdopt, A: 0, B: 9},
	} {
		if got := seat.Seek(l, 1, 9, at); got != want {
			t.Error(at, got)
		}
	}
	one := lab.Of(api.Conf{Seats: 1, Buckets: 1, Slots: 1, Tasks: 1})
	if got := seat.Seek(one, 0, 0, 0); got != (api.Op{Kind: api.OPopD}) {
		t.Error(got)
	}
}

func ins(op int, more ...int) api.Ins {
	x := api.Ins{Op: op}
	for i, to := range []*int{&x.A, &x.B, &x.C} {
		if i < len(more) {
			*to = more[i]
		}
	}
	return x
}

// code is a main function of these instructions, and one of one argument that returns it.
func code(l ...api.Ins) api.Code {
	return api.Code{
		Funs:  []api.Body{{Locals: 2, Ins: append(l, ins(api.IPush, 9), ins(api.IReturn))}, {Args: 1, Locals: 1, Ins: []api.Ins{ins(api.ILocal, 0), ins(api.IReturn)}}},
		Cells: []int{0, 0}, Maps: 1, Stacks: 1, Chans: 1,
	}
}

func frame(task int) api.Frame { return api.Frame{Task: task, Path: []int{4}, Local: []int{0, 0}} }

// P30.3
func TestGo(t *testing.T) {
	before := api.Seat{Phase: 4, At: 3, Task: 2, Ask: api.Ask{Kind: 5, Args: []int{1}}, Op: api.Op{Kind: 9}, Log: []api.Result{{Val: 1}}, Steps: []int{4}, Gone: [][2]int{{1, 2}}, Hold: 8}
	kids := frame(2)
	kids.Kids = []api.Kid{{Task: 3, Dst: -1}}
	for i, x := range []struct {
		c     api.Code
		f     api.Frame
		phase int
		op    api.Op
		ask   api.Ask
	}{
		{code(ins(api.ILoad, 1)), frame(2), api.HRun, api.Op{Kind: api.ORead, A: 1}, api.Ask{Kind: api.QLoad, A: 1}},
		{code(ins(api.IPush, 7), ins(api.IStore, 1)), frame(2), api.HRun, api.Op{Kind: api.OWrite, A: 1, B: 7}, api.Ask{Kind: api.QStore, A: 1, B: 7}},
		{code(ins(api.IPush, 7), ins(api.ICall, api.OPush, 0, 1)), frame(2), api.HRun, api.Op{Kind: api.OPush, A: 7}, api.Ask{Kind: api.QCall, Op: api.Op{Kind: api.OPush, A: 7}}},
		{code(ins(api.IPush, 7), ins(api.ISpawn, 1, 1, 0)), frame(2), api.HSpawn, api.Op{Kind: api.OMake, A: 2}, api.Ask{Kind: api.QSpawn, A: 1, Args: []int{7}}},
		{code(ins(api.ISync)), kids, api.HSync, api.Op{Kind: api.OSync, A: 2}, api.Ask{Kind: api.QSync}},
		{code(), frame(2), api.HEnd, api.Op{Kind: api.OEnd, A: 2, B: 9}, api.Ask{Kind: api.QReturn, A: 9}},
	} {
		on, ask, _ := vm.Next(x.c, x.f)
		s, f, err := seat.Go(x.c, before, x.f)
		want := api.Seat{Phase: x.phase, Task: 2, Ask: x.ask, Op: x.op, Gone: before.Gone, Hold: 8}
		if err != api.OK || !reflect.DeepEqual(f, on) || !reflect.DeepEqual(ask, x.ask) || !same(s, want) {
			t.Error(i, s, f, err)
		}
	}
	if s, f, err := seat.Go(code(ins(api.IDrop)), before, frame(2)); err != api.ErrArg || !reflect.DeepEqual(s, before) || !reflect.DeepEqual(f, frame(2)) {
		t.Error(s, f, err)
	}
	if _, _, err := seat.Go(code(ins(api.IJump, 0)), before, frame(2)); err != api.ErrBudget {
		t.Error(err)
	}
}

// same holds seats against each other, where a list without elements may be nil or not.
func same(a, b api.Seat) bool {
	clean := func(s api.Seat) api.Seat {
		s.Ask.Args = append([]int{}, s.Ask.Args...)
		s.Log = append([]api.Result{}, s.Log...)
		s.Steps = append([]int{}, s.Steps...)
		s.Gone = append([][2]int{}, s.Gone...)
		return s
	}
	return reflect.DeepEqual(clean(a), clean(b))
}

// turned is what a turn of the seat 1, where the worker 2 sits, comes to.
func turned(c api.Code, s api.Seat, frames []api.Frame, out api.Out) api.Turned {
	l, _ := laid()
	return seat.Turn(c, l, s, frames, 1, 2, out)
}

var gone = [][2]int{{3, 4}}

// begun is a seat that has done something in an operation.
func begun(phase, at, task int, op api.Op) api.Seat {
	return api.Seat{Phase: phase, At: at, Task: task, Op: op, Log: []api.Result{{Val: 1}}, Steps: []int{7}, Gone: [][2]int{{8, 8}}, Hold: 5, Ask: api.Ask{Kind: api.QStore, A: 1, B: 2}}
}

func seeking(at int, op api.Op) api.Seat {
	return api.Seat{Phase: api.HSeek, At: at, Op: op, Gone: gone}
}

// P30.4: HSeek and HClaim.
func TestTurnSeek(t *testing.T) {
	adopt := func(a int) api.Op { return api.Op{Kind: api.OAdopt, A: a, B: 2} }
	pop, steal := api.Op{Kind: api.OPopD, Obj: 1}, api.Op{Kind: api.OSteal, Obj: 2}
	claim := begun(api.HClaim, 0, 5, api.Op{Kind: api.OClaim, A: 5})
	claim.Log, claim.Steps, claim.Gone = nil, nil, gone
	for i, x := range []struct {
		s    api.Seat
		out  api.Out
		want api.Seat
		sits int
	}{
		{begun(api.HSeek, 0, 0, pop), api.Out{Val: 5, Is: true}, claim, 1},
		{begun(api.HSeek, 1, 0, steal), api.Out{Val: 5, Is: true}, claim, 1},
		{begun(api.HSeek, 0, 3, pop), api.Out{}, seeking(1, steal), 1},
		{begun(api.HSeek, 1, 3, steal), api.Out{}, seeking(2, api.Op{Kind: api.OSteal, Obj: 0}), 1},
		{begun(api.HSeek, 1, 3, steal), api.Out{Err: api.ErrNone}, seeking(2, api.Op{Kind: api.OSteal, Obj: 0}), 1},
		{begun(api.HSeek, 2, 3, steal), api.Out{Err: api.ErrNone}, seeking(3, adopt(2)), 1},
		{begun(api.HSeek, 3, 3, adopt(2)), api.Out{}, seeking(4, adopt(0)), 1},
		{begun(api.HSeek, 4, 3, adopt(0)), api.Out{}, seeking(0, pop), 1},
		{begun(api.HSeek, 4, 3, adopt(0)), api.Out{Is: true}, seeking(0, pop), 0},
		{begun(api.HSeek, 3, 3, adopt(2)), api.Out{Is: true}, seeking(0, pop), 2},
		{begun(api.HClaim, 0, 3, api.Op{Kind: api.OClaim, A: 3}), api.Out{}, seeking(0, pop), 1},
	} {
		x.out.Gone = gone
		frames := []api.Frame{frame(1)}
		got := turned(code(), x.s, frames, x.out)
		if !same(got.Seat, x.want) || got.Sits != x.sits || got.Over || !reflect.DeepEqual(got.Frames, frames) {
			t.Errorf("%d: %v", i, got)
		}
	}
}

// goesOn is what comes of a seat whose frame goes on, having been told values.
func goesOn(t *testing.T, c api.Code, s api.Seat, f api.Frame, ask api.Ask, vals []int) (api.Seat, api.Frame) {
	t.Helper()
	if ask.Kind != 0 {
		told, err := vm.Told(f, ask, vals)
		if err != api.OK {
			t.Fatal(err)
		}
		f = told
	}
	s.Gone = gone
	s, f, err := seat.Go(c, s, f)
	if err != api.OK {
		t.Fatal(err)
	}
	return s, f
}

// P30.4: a frame goes on.
func TestTurnGoesOn(t *testing.T) {
	c := code(ins(api.IStore, 0), ins(api.ILoad, 1))
	full := frame(2)
	full.Stack = []int{1}
	kids := frame(2)
	kids.Kids = []api.Kid{{Task: 1, Dst: 0}, {Task: 3, Dst: 1}}
	kids.Stack = []int{1}
	of := func(phase, at int, op api.Op, ask api.Ask) api.Seat {
		s := begun(phase, at, 2, op)
		s.Ask = ask
		return s
	}
	for i, x := range []struct {
		f    api.Frame
		s    api.Seat
		out  api.Out
		ask  api.Ask
		vals []int
	}{
		{full, begun(api.HClaim, 0, 2, api.Op{Kind: api.OClaim, A: 2}), api.Out{Is: true}, api.Ask{}, nil},
		{frame(2), of(api.HRun, 0, api.Op{Kind: api.ORead}, api.Ask{Kind: api.QLoad}), api.Out{Val: 33}, api.Ask{Kind: api.QLoad}, []int{33}},
		{full, of(api.HRun, 0, api.Op{Kind: api.OWrite}, api.Ask{Kind: api.QStore}), api.Out{Val: 33}, api.Ask{Kind: api.QStore}, nil},
		{frame(2), of(api.HRun, 0, api.Op{Kind: api.OPop}, api.Ask{Kind: api.QCall}), api.Out{Val: 33, Is: true}, api.Ask{Kind: api.QCall}, []int{34}},
		{frame(2), of(api.HRun, 0, api.Op{Kind: api.OPop}, api.Ask{Kind: api.QCall}), api.Out{}, api.Ask{Kind: api.QCall}, []int{0}},
		{frame(2), of(api.HRun, 0, api.Op{Kind: api.OPush}, api.Ask{Kind: api.QCall}), api.Out{Is: true}, api.Ask{Kind: api.QCall}, []int{1}},
		{full, of(api.HSpawn, 1, api.Op{Kind: api.OPushD}, api.Ask{Kind: api.QSpawn, B: 1}), api.Out{Is: true}, api.Ask{Kind: api.QSpawn, B: 1}, []int{5}},
		{kids, of(api.HSync, 2, api.Op{Kind: api.OFetch, A: 3}, api.Ask{Kind: api.QSync, Args: []int{70}}), api.Out{Val: 80, Is: true}, api.Ask{Kind: api.QSync}, []int{70, 80}},
		{full, of(api.HSync, 0, api.Op{Kind: api.OSync, A: 2}, api.Ask{Kind: api.QSync}), api.Out{Is: true}, api.Ask{Kind: api.QSync}, nil},
	} {
		x.out.Gone = gone
		frames := []api.Frame{frame(1), x.f, frame(3)}
		got := turned(c, x.s, frames, x.out)
		s, f := goesOn(t, c, x.s, x.f, x.ask, x.vals)
		if !same(got.Seat, s) || got.Over || got.Sits != 1 || len(got.Frames) != 3 || !reflect.DeepEqual(got.Frames[1], f) || !reflect.DeepEqual(got.Frames[0], frame(1)) {
			t.Errorf("%d: %v", i, got)
		}
		if !reflect.DeepEqual(frames[1], x.f) {
			t.Errorf("%d: frames were written into", i)
		}
	}
}

// P30.4: HSpawn, HSync and HEnd, where they go to another operation.
func TestTurnOnward(t *testing.T) {
	c := code()
	spawns := begun(api.HSpawn, 0, 2, api.Op{Kind: api.OMake, A: 2})
	spawns.Ask = api.Ask{Kind: api.QSpawn, A: 1, B: 0, Args: []int{66}}
	parent := frame(2)
	parent.Many, parent.Kids = 3, []api.Kid{{Task: 1, Dst: 0}, {Task: 3, Dst: -1}}
	want := spawns
	want.Hold, want.At, want.Op, want.Log, want.Steps, want.Gone = 5, 1, api.Op{Kind: api.OPushD, Obj: 1, A: 5}, nil, nil, gone
	child := api.Frame{Task: 5, Path: []int{4, 3}, Fun: 1, Local: []int{66}}
	got := turned(c, spawns, []api.Frame{frame(1), parent}, api.Out{Val: 5, Is: true, Gone: gone})
	if !same(got.Seat, want) || got.Over || !reflect.DeepEqual(got.Frames, []api.Frame{frame(1), parent, {}, {}, child}) {
		t.Error(got)
	}
	got = turned(c, spawns, []api.Frame{frame(1), parent, frame(3), frame(4), frame(5), frame(6)}, api.Out{Val: 5, Is: true, Gone: gone})
	if !same(got.Seat, want) || len(got.Frames) != 6 || !reflect.DeepEqual(got.Frames[4], child) {
		t.Error("a frame that is there already", got)
	}

	if got := turned(c, spawns, []api.Frame{frame(1), parent}, api.Out{Val: api.MaxTask, Is: true}); got.Over || len(got.Frames) != api.MaxTask {
		t.Error("the last task that there may be", got.Over, len(got.Frames))
	}

	syncs := begun(api.HSync, 0, 2, api.Op{Kind: api.OSync, A: 2})
	syncs.Ask = api.Ask{Kind: api.QSync}
	frames := []api.Frame{frame(1), parent}
	if got := turned(c, syncs, frames, api.Out{Gone: gone}); !same(got.Seat, seeking(0, api.Op{Kind: api.OPopD, Obj: 1})) || got.Over {
		t.Error("children are out", got)
	}
	want = syncs
	want.At, want.Op, want.Log, want.Steps, want.Gone = 1, api.Op{Kind: api.OFetch, A: 1}, nil, nil, gone
	if got := turned(c, syncs, frames, api.Out{Is: true, Gone: gone}); !same(got.Seat, want) || got.Over {
		t.Error("children are there", got)
	}
	want.At, want.Op, want.Ask.Args = 2, api.Op{Kind: api.OFetch, A: 3}, []int{70}
	syncs.At, syncs.Op = 1, api.Op{Kind: api.OFetch, A: 1}
	if got := turned(c, syncs, frames, api.Out{Val: 70, Is: true, Gone: gone}); !same(got.Seat, want) || got.Over {
		t.Error("the first one's value", got)
	}

	ends := begun(api.HEnd, 0, 3, api.Op{Kind: api.OEnd, A: 3, B: 44})
	if got := turned(c, ends, frames, api.Out{Gone: gone}); !same(got.Seat, seeking(0, api.Op{Kind: api.OPopD, Obj: 1})) || got.Over {
		t.Error("an end that nobody waited for", got)
	}
	want = ends
	want.Task, want.Phase, want.At, want.Ask, want.Op, want.Log, want.Steps, want.Gone = 2, api.HSync, 1, api.Ask{Kind: api.QSync}, api.Op{Kind: api.OFetch, A: 1}, nil, nil, gone
	if got := turned(c, ends, frames, api.Out{Val: 2, Gone: gone}); !same(got.Seat, want) || got.Over {
		t.Error("the parent goes on", got)
	}
	if got := turned(c, ends, frames, api.Out{Is: true, Gone: gone}); !got.Over || got.Err != api.OK || got.Value != 44 || !reflect.DeepEqual(got.Seat, ends) || got.Sits != 1 {
		t.Error("the main one's", got)
	}
}

// The main task's frame goes on, too; and what is handed in isn't written into, though there be room behind it.
func TestTurnOfMain(t *testing.T) {
	args := []int{7, 9, 9}
	main := frame(1)
	main.Kids = []api.Kid{{Task: 2, Dst: 0}, {Task: 3, Dst: 1}, {Task: 4, Dst: -1}}
	s := begun(api.HSync, 2, 1, api.Op{Kind: api.OFetch, A: 3})
	s.Ask = api.Ask{Kind: api.QSync, Args: args[:1]}
	got := turned(code(), s, []api.Frame{main}, api.Out{Val: 8, Is: true})
	if got.Over || got.Seat.Op != (api.Op{Kind: api.OFetch, A: 4}) || got.Seat.Ask.Args[1] != 8 || args[1] != 9 {
		t.Error(got, args)
	}
	got = turned(code(), got.Seat, got.Frames, api.Out{Val: 6, Is: true})
	if got.Over || got.Frames[0].Local[0] != 7 || got.Frames[0].Local[1] != 8 || got.Seat.Op != (api.Op{Kind: api.OEnd, A: 1, B: 9}) {
		t.Error(got)
	}
}

// P30.4: what ends a run.
func TestTurnOver(t *testing.T) {
	c := code(ins(api.ILoad, 0), ins(api.IJump, 1))
	two := []api.Frame{frame(1), frame(2)}
	stuck := frame(2)
	stuck.Pc = 1
	spawns := begun(api.HSpawn, 0, 2, api.Op{Kind: api.OMake, A: 2})
	spawns.Ask = api.Ask{Kind: api.QSpawn, A: 1, Args: []int{66}}
	noSuch := spawns
	noSuch.Ask.Args = nil
	syncs := begun(api.HSync, 1, 2, api.Op{Kind: api.OFetch, A: 2})
	syncs.Ask = api.Ask{Kind: api.QSync}
	many := syncs
	many.Ask.Args = []int{1, 2}
	reads := begun(api.HRun, 0, 2, api.Op{Kind: api.ORead})
	reads.Ask = api.Ask{Kind: api.QLoad}
	bad := begun(api.HSpawn, 1, 2, api.Op{Kind: api.OPushD})
	bad.Ask, bad.Hold = api.Ask{Kind: api.QSpawn, B: 2}, 5
	for i, x := range []struct {
		s      api.Seat
		frames []api.Frame
		out    api.Out
		want   api.Errno
	}{
		{begun(api.HRun, 0, 2, api.Op{Kind: api.OPush}), two, api.Out{Err: api.ErrFull}, api.ErrFull},
		{begun(api.HSpawn, 0, 2, api.Op{Kind: api.OMake}), two, api.Out{Err: api.ErrTasks}, api.ErrTasks},
		{begun(api.HSeek, 0, 0, api.Op{Kind: api.OPopD}), two, api.Out{Err: api.ErrNone}, api.ErrNone},
		{begun(api.HSeek, 0, 0, api.Op{Kind: api.OSteal}), two, api.Out{Err: api.ErrArg}, api.ErrArg},
		{begun(6, 0, 2, api.Op{Kind: api.OPopD}), two, api.Out{}, api.ErrArg},
		{begun(-1, 0, 2, api.Op{Kind: api.OPopD}), two, api.Out{}, api.ErrArg},
		{begun(api.HClaim, 0, 3, api.Op{Kind: api.OClaim}), two, api.Out{Is: true}, api.ErrArg},
		{begun(api.HClaim, 0, 0, api.Op{Kind: api.OClaim}), two, api.Out{Is: true}, api.ErrArg},
		{begun(api.HRun, 0, 3, api.Op{Kind: api.OWrite}), two, api.Out{}, api.ErrArg},
		{reads, two, api.Out{Val: -1}, api.ErrArg},
		{reads, two, api.Out{Val: api.Wrap}, api.ErrArg},
		{reads, []api.Frame{frame(1), stuck}, api.Out{Val: 1}, api.ErrBudget},
		{spawns, two, api.Out{Val: 65}, api.ErrArg},
		{spawns, two, api.Out{Val: 0}, api.ErrArg},
		{noSuch, two, api.Out{Val: 5}, api.ErrArg},
		{spawns, two[:1], api.Out{Val: 5}, api.ErrArg},
		{bad, two, api.Out{}, api.ErrArg},
		{syncs, two, api.Out{Val: 1, Is: true}, api.ErrArg},
		{many, two, api.Out{Val: 1, Is: true}, api.ErrArg},
		{syncs, two[:1], api.Out{Val: 1, Is: true}, api.ErrArg},
		{begun(api.HEnd, 0, 2, api.Op{Kind: api.OEnd}), two, api.Out{Val: 1}, api.ErrArg},
		{begun(api.HEnd, 0, 2, api.Op{Kind: api.OEnd}), two, api.Out{Val: 3}, api.ErrArg},
		{begun(api.HEnd, 0, 2, api.Op{Kind: api.OEnd}), two, api.Out{Val: -1}, api.ErrArg},
	} {
		x.out.Gone = gone
		got := turned(c, x.s, x.frames, x.out)
		if !got.Over || got.Err != x.want || got.Value != 0 || got.Sits != 1 || !reflect.DeepEqual(got.Seat, x.s) || !reflect.DeepEqual(got.Frames, x.frames) {
			t.Errorf("%d: %v", i, got)
		}
	}
}
