package seat

import (
	"slices"

	"underwood/api"
	"underwood/vm"
)

// over is what a turn panics with where the run is over.
type over struct {
	err   api.Errno
	value int
}

// turn is what comes of an operation, as it is made up.
type turn struct {
	code   api.Code
	layout api.Layout
	seat   api.Seat
	frames []api.Frame
	me     int
	worker int
	sits   int
	out    api.Out
}

// Turn is what comes of an operation that a seat is through with.
func Turn(c api.Code, l api.Layout, s api.Seat, frames []api.Frame, me, worker int, out api.Out) (turned api.Turned) {
	defer func() {
		if r := recover(); r != nil {
			end, ok := r.(over)
			if !ok {
				panic(r)
			}
			turned = api.Turned{Seat: s, Frames: frames, Sits: me, Over: true, Err: end.err, Value: end.value}
		}
	}()
	t := &turn{c, l, s, slices.Clone(frames), me, worker, me, out}
	if out.Err != api.OK && !(out.Err == api.ErrNone && s.Op.Kind == api.OSteal) {
		panic(over{err: out.Err})
	}
	t.seat.Gone = out.Gone
	phases := [...]func(){
		api.HSeek: t.seek, api.HRun: t.run, api.HSpawn: t.spawn, api.HClaim: t.claim, api.HSync: t.sync, api.HEnd: t.end,
	}
	t.need(s.Phase >= 0 && s.Phase < len(phases))
	phases[s.Phase]()
	return api.Turned{Seat: t.seat, Frames: t.frames, Sits: t.sits}
}

func (t *turn) need(is bool) {
	if !is {
		panic(over{err: api.ErrArg})
	}
}

// begin goes to another operation.
func (t *turn) begin(op api.Op) {
	t.seat.Op, t.seat.Log, t.seat.Steps = op, nil, nil
}

// seekFrom looks for a task, from a place on.
func (t *turn) seekFrom(at int) {
	if at >= 2*t.layout.Conf.Seats-1 {
		at = 0
	}
	t.seat.Phase, t.seat.At = api.HSeek, at
	t.seat.Task, t.seat.Ask, t.seat.Hold = 0, api.Ask{}, 0
	t.begin(Seek(t.layout, t.me, t.worker, at))
}

// frame is the frame of the seat's task.
func (t *turn) frame() api.Frame {
	t.need(t.seat.Task >= 1 && t.seat.Task <= len(t.frames))
	return t.frames[t.seat.Task-1]
}

// goOn goes on with the frame of the seat's task.
func (t *turn) goOn(f api.Frame) {
	s, on, err := Go(t.code, t.seat, f)
	if err != api.OK {
		panic(over{err: err})
	}
	t.seat = s
	t.frames[t.seat.Task-1] = on
}

// told goes on with the frame of the seat's task, that was told values.
func (t *turn) told(ask api.Ask, vals []int) {
	f, err := vm.Told(t.frame(), ask, vals)
	if err != api.OK {
		panic(over{err: err})
	}
	t.goOn(f)
}

func (t *turn) seek() {
	switch {
	case !t.out.Is:
		t.seekFrom(t.seat.At + 1)
	case t.seat.Op.Kind == api.OAdopt:
		t.sits = t.seat.Op.A
		t.seekFrom(0)
	default:
		t.seat.Phase, t.seat.At, t.seat.Task = api.HClaim, 0, t.out.Val
		t.begin(api.Op{Kind: api.OClaim, A: t.out.Val})
	}
}

func (t *turn) claim() {
	if t.out.Is {
		t.goOn(t.frame())
	} else {
		t.seekFrom(0)
	}
}

func (t *turn) run() {
	var vals []int
	switch op := t.seat.Op; op.Kind {
	case api.ORead:
		vals = []int{t.out.Val}
	case api.OWrite:
	default:
		vals = []int{vm.Value(op, t.out.Val, t.out.Is)}
	}
	t.told(t.seat.Ask, vals)
}

func (t *turn) spawn() {
	if t.seat.At != 0 {
		t.told(t.seat.Ask, []int{t.seat.Hold})
		return
	}
	n, ask := t.out.Val, t.seat.Ask
	child, err := vm.Start(t.code, ask.A, ask.Args, n, vm.Child(t.frame()))
	t.need(err == api.OK && n <= api.MaxTask)
	for len(t.frames) < n {
		t.frames = append(t.frames, api.Frame{})
	}
	t.frames[n-1] = child
	t.seat.Hold, t.seat.At = n, 1
	t.begin(api.Op{Kind: api.OPushD, Obj: t.me, A: n})
}

func (t *turn) sync() {
	if t.seat.At == 0 && !t.out.Is {
		t.seekFrom(0)
		return
	}
	if t.seat.At > 0 {
		t.seat.Ask.Args = append(slices.Clone(t.seat.Ask.Args), t.out.Val)
	}
	if len(t.seat.Ask.Args) == len(t.frame().Kids) {
		t.told(t.seat.Ask, t.seat.Ask.Args)
		return
	}
	t.seat.At++
	t.fetch()
}

// fetch goes to the value of the next child.
func (t *turn) fetch() {
	kids, k := t.frame().Kids, len(t.seat.Ask.Args)
	t.need(k < len(kids))
	t.begin(api.Op{Kind: api.OFetch, A: kids[k].Task})
}

func (t *turn) end() {
	switch {
	case t.out.Is:
		panic(over{value: t.seat.Op.B})
	case t.out.Val == 0:
		t.seekFrom(0)
	default:
		t.seat.Task, t.seat.Phase, t.seat.At = t.out.Val, api.HSync, 1
		t.seat.Ask = api.Ask{Kind: api.QSync}
		t.fetch()
	}
}
