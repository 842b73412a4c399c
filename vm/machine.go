package vm

import (
	"slices"

	"underwood/api"
)

// amiss is what a machine panics with where it can't go on.
type amiss struct{ err api.Errno }

// machine is a frame that goes on: its locals and its stack are nobody else's.
type machine struct {
	code api.Code
	body api.Body
	f    api.Frame
	ask  api.Ask
}

// does is what an instruction does.
type does func(m *machine, x api.Ins)

// instructions are what they do, by their numbers.
func instructions() [api.IHalf + 1]does {
	return [...]does{
		api.IPush:  push,
		api.ILocal: local,
		api.ISet:   set,
		api.ILoad:  load,
		api.IStore: store,
		api.IAdd:   two(func(a, b int) int { return wrap(a + b) }),
		api.ISub:   two(func(a, b int) int { return wrap(a - b) }),
		api.IMul:   two(func(a, b int) int { return wrap(a * b) }),
		api.ILess:  two(func(a, b int) int { return yes(a < b) }),
		api.IEq:    two(func(a, b int) int { return yes(a == b) }),
		api.IHalf:  two(func(a, b int) int { return (a + b) / 2 }),
		api.ICall:  call,
		api.IDrop:  func(m *machine, _ api.Ins) { m.pop(1); m.pass() },
		api.ISpawn: spawn,
		api.ISync:  func(m *machine, _ api.Ins) { m.unlessKids(func() { m.pass() }) },
		api.IJump:  func(m *machine, x api.Ins) { m.pass(); m.jump(x.A) },
		api.IZero:  zero,
		api.IReturn: func(m *machine, _ api.Ins) {
			m.unlessKids(func() { m.asks(api.Ask{Kind: api.QReturn, A: m.pop(1)[0]}) })
		},
		api.IAssert: assert,
	}
}

func yes(is bool) int {
	if is {
		return 1
	}
	return 0
}

func (m *machine) need(is bool) {
	if !is {
		panic(amiss{api.ErrArg})
	}
}

// step does one instruction.
func (m *machine) step(all [api.IHalf + 1]does) {
	if m.f.Spent == Budget {
		panic(amiss{api.ErrBudget})
	}
	m.need(m.f.Pc < len(m.body.Ins))
	x := m.body.Ins[m.f.Pc]
	m.need(within(x.Op, api.IPush, api.IHalf))
	all[x.Op](m, x)
}

func (m *machine) pass() {
	m.f.Spent++
	m.f.Pc++
}

func (m *machine) jump(to int) {
	m.need(within(to, 0, len(m.body.Ins)-1))
	m.f.Pc = to
}

// asks ends it, with an instruction that is passed.
func (m *machine) asks(a api.Ask) {
	m.pass()
	m.ask = a
}

// unlessKids waits for all children, if there are any, and else goes on.
func (m *machine) unlessKids(on func()) {
	if len(m.f.Kids) > 0 {
		m.ask = api.Ask{Kind: api.QSync}
		return
	}
	on()
}

func (m *machine) push(n int) {
	m.need(len(m.f.Stack) < Deep)
	m.f.Stack = append(m.f.Stack, n)
}

// pop takes so many values, and tells them, the lowest first.
func (m *machine) pop(many int) []int {
	left := len(m.f.Stack) - many
	m.need(many >= 0 && left >= 0)
	went := slices.Clone(m.f.Stack[left:])
	m.f.Stack = m.f.Stack[:left]
	return went
}

func (m *machine) isLocal(k int) bool { return within(k, 0, len(m.f.Local)-1) }

func (m *machine) awaited(k int) bool {
	return slices.ContainsFunc(m.f.Kids, func(kid api.Kid) bool { return kid.Dst == k })
}

func push(m *machine, x api.Ins) {
	m.need(value(x.A))
	m.push(x.A)
	m.pass()
}

func local(m *machine, x api.Ins) {
	m.need(m.isLocal(x.A))
	if m.awaited(x.A) {
		m.ask = api.Ask{Kind: api.QSync}
		return
	}
	m.push(m.f.Local[x.A])
	m.pass()
}

func set(m *machine, x api.Ins) {
	m.need(m.isLocal(x.A))
	if m.awaited(x.A) {
		m.ask = api.Ask{Kind: api.QSync}
		return
	}
	m.f.Local[x.A] = m.pop(1)[0]
	m.pass()
}

func load(m *machine, x api.Ins) {
	m.need(within(x.A, 0, len(m.code.Cells)-1))
	m.asks(api.Ask{Kind: api.QLoad, A: x.A})
}

func store(m *machine, x api.Ins) {
	m.need(within(x.A, 0, len(m.code.Cells)-1))
	m.asks(api.Ask{Kind: api.QStore, A: x.A, B: m.pop(1)[0]})
}

// two is an instruction that makes one value of two, the lower one first.
func two(of func(a, b int) int) does {
	return func(m *machine, _ api.Ins) {
		went := m.pop(2)
		m.push(of(went[0], went[1]))
		m.pass()
	}
}

// object is how many objects there are that an operation may be of, and how many values it takes.
func (m *machine) object(op int) (many, takes int) {
	switch op {
	case api.OGet, api.ODel:
		return m.code.Maps, 1
	case api.OPut:
		return m.code.Maps, 2
	case api.OPush:
		return m.code.Stacks, 1
	case api.OPop:
		return m.code.Stacks, 0
	case api.OSend:
		return m.code.Chans, 1
	case api.ORecv:
		return m.code.Chans, 0
	}
	return 0, 0
}

func call(m *machine, x api.Ins) {
	many, takes := m.object(x.A)
	m.need(within(x.B, 0, many-1) && x.C == takes)
	op := api.Op{Kind: x.A, Obj: x.B}
	went := m.pop(x.C)
	if takes > 0 {
		op.A = went[0]
	}
	if takes > 1 {
		op.B = went[1]
	}
	if x.A == api.OGet || x.A == api.OPut || x.A == api.ODel {
		op.A = Key(op.A)
	}
	m.asks(api.Ask{Kind: api.QCall, Op: op})
}

func spawn(m *machine, x api.Ins) {
	m.need(within(x.A, 0, len(m.code.Funs)-1) && within(x.C, -1, len(m.f.Local)-1))
	m.need(x.B == m.code.Funs[x.A].Args)
	m.asks(api.Ask{Kind: api.QSpawn, A: x.A, B: x.C, Args: m.pop(x.B)})
}

func zero(m *machine, x api.Ins) {
	m.need(within(x.A, 0, len(m.body.Ins)-1))
	top := m.pop(1)[0]
	m.pass()
	if top == 0 {
		m.jump(x.A)
	}
}

func assert(m *machine, _ api.Ins) {
	if m.pop(1)[0] == 0 {
		m.f.Fail = true
	}
	m.pass()
}
