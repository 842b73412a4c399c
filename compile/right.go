package compile

import "underwood/api"

// unknown is the height ahead of an instruction that isn't come to.
const unknown = -1

// Heights are how many values a function's stack has ahead of each instruction.
func Heights(c api.Code, fun int) []int {
	if fun < 0 || fun >= len(c.Funs) {
		return nil
	}
	ins := c.Funs[fun].Ins
	heights := make([]int, len(ins))
	for i, x := range ins {
		heights[i] = unknown
		if x.Op < api.IPush || x.Op > api.IHalf {
			return nil
		}
	}
	work := []int{}
	comeTo := func(k, height int) bool {
		if k < 0 || k >= len(ins) || heights[k] != unknown && heights[k] != height {
			return false
		}
		if heights[k] == unknown {
			heights[k] = height
			work = append(work, k)
		}
		return true
	}
	if !comeTo(0, 0) {
		return nil
	}
	for len(work) > 0 {
		k := work[len(work)-1]
		work = work[:len(work)-1]
		takes, puts := effect(ins[k])
		if takes < 0 || heights[k] < takes {
			return nil
		}
		for _, next := range follows(ins[k], k) {
			if !comeTo(next, heights[k]-takes+puts) {
				return nil
			}
		}
	}
	return heights
}

// effect is how many values an instruction takes, and puts.
func effect(x api.Ins) (takes, puts int) {
	switch x.Op {
	case api.IPush, api.ILocal, api.ILoad:
		return 0, 1
	case api.ISet, api.IStore, api.IDrop, api.IZero, api.IReturn, api.IAssert:
		return 1, 0
	case api.IAdd, api.ISub, api.IMul, api.ILess, api.IEq, api.IHalf:
		return 2, 1
	case api.ICall:
		return x.C, 1
	case api.ISpawn:
		return x.B, 0
	}
	return 0, 0
}

// follows is where it goes on behind the instruction at k.
func follows(x api.Ins, k int) []int {
	switch x.Op {
	case api.IJump:
		return []int{x.A}
	case api.IZero:
		return []int{k + 1, x.A}
	case api.IReturn:
		return nil
	}
	return []int{k + 1}
}

func within(n, low, high int) bool { return n >= low && n <= high }

// Right tells whether code may be run.
func Right(c api.Code) bool {
	if !within(len(c.Funs), 1, 2*api.MaxFun) || !within(c.Main, 0, len(c.Funs)-1) || c.Funs[c.Main].Args != 0 {
		return false
	}
	if len(c.Cells) > api.MaxCell {
		return false
	}
	for _, n := range c.Cells {
		if !within(n, 0, api.Wrap-1) {
			return false
		}
	}
	for _, n := range []int{c.Maps, c.Stacks, c.Chans} {
		if !within(n, 0, api.MaxObj) {
			return false
		}
	}
	for i := range c.Funs {
		if !rightFun(c, i) {
			return false
		}
	}
	return true
}

func rightFun(c api.Code, i int) bool {
	f := c.Funs[i]
	if f.Args < 0 || !within(f.Locals, f.Args, api.MaxLocal) || !within(len(f.Ins), 1, api.MaxIns) {
		return false
	}
	for _, x := range f.Ins {
		if !rightIns(c, f, x) {
			return false
		}
	}
	return len(Heights(c, i)) > 0
}

func rightIns(c api.Code, f api.Body, x api.Ins) bool {
	switch x.Op {
	case api.IPush:
		return within(x.A, 0, api.Wrap-1)
	case api.ILocal, api.ISet:
		return within(x.A, 0, f.Locals-1)
	case api.ILoad, api.IStore:
		return within(x.A, 0, len(c.Cells)-1)
	case api.ICall:
		many, takes := object(c, x.A)
		return within(x.B, 0, many-1) && x.C == takes
	case api.ISpawn:
		return within(x.A, 0, len(c.Funs)-1) && x.B == c.Funs[x.A].Args && within(x.C, -1, f.Locals-1)
	}
	return true
}

// object is how many objects there are that an operation may be of, and how many values it takes.
func object(c api.Code, op int) (many, takes int) {
	switch op {
	case api.OGet, api.ODel:
		return c.Maps, 1
	case api.OPut:
		return c.Maps, 2
	case api.OPush:
		return c.Stacks, 1
	case api.OPop:
		return c.Stacks, 0
	case api.OSend:
		return c.Chans, 1
	case api.ORecv:
		return c.Chans, 0
	}
	return 0, 0
}
