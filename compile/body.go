package compile

import (
	"underwood/api"
	"underwood/check"
)

// maker lays a function's instructions.
type maker struct {
	nodes  []api.Node
	names  names
	locals map[string]int
	ins    []api.Ins
}

func body(p api.Prog, n names, i int, f api.Fun) api.Body {
	locals := check.Locals(p, i)
	m := &maker{nodes: p.Nodes, names: n, locals: map[string]int{}}
	for k, name := range locals {
		m.locals[name] = k
	}
	m.node(f.Body)
	m.put(api.IPush, 0)
	m.put(api.IReturn, 0)
	return api.Body{Args: len(f.Args), Locals: len(locals), Ins: m.ins}
}

func (m *maker) put(op, a int) { m.ins = append(m.ins, api.Ins{Op: op, A: a}) }

// jump lays an instruction, and tells what puts in its place, when that is reached.
func (m *maker) jump(op int) (here func()) {
	k := len(m.ins)
	m.put(op, 0)
	return func() { m.ins[k].A = len(m.ins) }
}

func (m *maker) all(of []int) {
	for _, k := range of {
		m.node(k)
	}
}

// node lays a node's instructions.
func (m *maker) node(k int) {
	n := m.nodes[k]
	switch n.Kind {
	case api.NIf:
		m.choice(n)
		return
	case api.NWhile:
		m.loop(n)
		return
	}
	m.all(n.Of)
	switch n.Kind {
	case api.NNum:
		m.put(api.IPush, n.N)
	case api.NName:
		m.name(api.ILoad, api.ILocal, n.Name)
	case api.NSet:
		m.name(api.IStore, api.ISet, n.Name)
	case api.NAdd, api.NSub, api.NMul, api.NLess, api.NEq:
		m.put(arithmetic(n.Kind), 0)
	case api.NCall:
		op := operation(n.Name2)
		m.ins = append(m.ins, api.Ins{Op: api.ICall, A: op, B: m.names.things[n.Name], C: len(n.Of)})
	case api.NSpawn:
		m.spawn(m.names.funs[n.Name2], n)
	case api.NPar:
		m.spawn(m.names.helpers[n.Name2], n)
	case api.NSync:
		m.put(api.ISync, 0)
	case api.NReturn:
		m.put(api.IReturn, 0)
	case api.NAssert:
		m.put(api.IAssert, 0)
	case api.NDo:
		m.put(api.IDrop, 0)
	}
}

// name lays what reads, or writes, a cell or a local.
func (m *maker) name(cell, local int, name string) {
	if m.names.decls[name] {
		m.put(cell, m.names.things[name])
	} else {
		m.put(local, m.locals[name])
	}
}

func (m *maker) spawn(fun int, n api.Node) {
	to := -1
	if n.Name != "" {
		to = m.locals[n.Name]
	}
	m.ins = append(m.ins, api.Ins{Op: api.ISpawn, A: fun, B: len(n.Of), C: to})
}

func (m *maker) choice(n api.Node) {
	m.node(n.Of[0])
	behind := m.jump(api.IZero)
	m.node(n.Of[1])
	if len(n.Of) > 2 {
		end := m.jump(api.IJump)
		behind()
		m.node(n.Of[2])
		behind = end
	}
	behind()
}

func (m *maker) loop(n api.Node) {
	first := len(m.ins)
	m.node(n.Of[0])
	behind := m.jump(api.IZero)
	m.node(n.Of[1])
	m.put(api.IJump, first)
	behind()
}

func arithmetic(kind int) int {
	switch kind {
	case api.NAdd:
		return api.IAdd
	case api.NSub:
		return api.ISub
	case api.NMul:
		return api.IMul
	case api.NLess:
		return api.ILess
	}
	return api.IEq
}

func operation(name string) int {
	switch name {
	case "get":
		return api.OGet
	case "put":
		return api.OPut
	case "del":
		return api.ODel
	case "push":
		return api.OPush
	case "pop":
		return api.OPop
	case "send":
		return api.OSend
	}
	return api.ORecv
}
