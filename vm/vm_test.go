package vm_test

import (
	"reflect"
	"slices"
	"testing"

	"underwood/api"
	"underwood/vm"
)

func ins(op int, more ...int) api.Ins {
	x := api.Ins{Op: op}
	for i, to := range []*int{&x.A, &x.B, &x.C} {
		if i < len(more) {
			*to = more[i]
		}
	}
	return x
}

// code is a function of two locals with these instructions, another one of one argument, two cells, and an object of each kind.
func code(l ...api.Ins) api.Code {
	return api.Code{
		Funs:  []api.Body{{Locals: 2, Ins: l}, {Args: 1, Locals: 1, Ins: []api.Ins{ins(api.IPush), ins(api.IReturn)}}},
		Cells: []int{0, 0}, Maps: 1, Stacks: 1, Chans: 1,
	}
}

func frame() api.Frame { return api.Frame{Task: 3, Path: []int{1}, Local: []int{4, 5}} }

// P8.1
func TestStart(t *testing.T) {
	c := api.Code{Funs: []api.Body{{Args: 1, Locals: 3}, {Args: 2, Locals: 1}}}
	f, err := vm.Start(c, 0, []int{7}, 2, []int{0, 4})
	if err != api.OK || !reflect.DeepEqual(f, api.Frame{Task: 2, Path: []int{0, 4}, Local: []int{7, 0, 0}}) {
		t.Error(f, err)
	}
	for i, x := range []struct {
		fun, task int
		args      []int
	}{{2, 1, []int{7}}, {-1, 1, []int{7}}, {0, 0, []int{7}}, {0, -1, []int{7}}, {0, 1, nil}, {0, 1, []int{1, 2}}, {0, 1, []int{-1}}, {0, 1, []int{api.Wrap}}, {1, 1, []int{1, 2}}} {
		if f, err := vm.Start(c, x.fun, x.args, x.task, nil); err != api.ErrArg || !reflect.DeepEqual(f, api.Frame{}) {
			t.Error(i, f, err)
		}
	}
	if _, err := vm.Start(c, 0, []int{api.Wrap - 1}, 1, nil); err != api.OK {
		t.Error(err)
	}
	c.Funs[1].Locals = 2
	if f, err := vm.Start(c, 1, []int{7, 0}, 1, nil); err != api.OK || f.Fun != 1 || !slices.Equal(f.Local, []int{7, 0}) {
		t.Error("the last function, all of whose locals are arguments", f, err)
	}
}

func TestRight(t *testing.T) {
	c := code(ins(api.ISync))
	if !vm.Right(c, frame()) {
		t.Fatal("a frame that is right")
	}
	for i, x := range []struct {
		want bool
		turn func(f *api.Frame)
	}{
		{true, func(f *api.Frame) { f.Pc = 1 }},
		{true, func(f *api.Frame) { f.Fun, f.Local = 1, []int{3} }},
		{true, func(f *api.Frame) { f.Stack = make([]int, vm.Deep) }},
		{true, func(f *api.Frame) { f.Spent = vm.Budget }},
		{true, func(f *api.Frame) { f.Kids = []api.Kid{{Task: 1, Dst: -1}, {Task: 99, Dst: 1}} }},
		{true, func(f *api.Frame) { f.Path, f.Fail, f.Many = nil, true, 100 }},
		{false, func(f *api.Frame) { f.Task = 0 }},
		{false, func(f *api.Frame) { f.Fun = 2 }},
		{false, func(f *api.Frame) { f.Fun = -1 }},
		{false, func(f *api.Frame) { f.Pc = 2 }},
		{false, func(f *api.Frame) { f.Pc = -1 }},
		{false, func(f *api.Frame) { f.Local = f.Local[:1] }},
		{false, func(f *api.Frame) { f.Local = []int{0, -1} }},
		{false, func(f *api.Frame) { f.Stack = []int{api.Wrap} }},
		{false, func(f *api.Frame) { f.Stack = make([]int, vm.Deep+1) }},
		{false, func(f *api.Frame) { f.Kids = []api.Kid{{Task: 0, Dst: 0}} }},
		{false, func(f *api.Frame) { f.Kids = []api.Kid{{Task: 1, Dst: 2}} }},
		{false, func(f *api.Frame) { f.Kids = []api.Kid{{Task: 1, Dst: -2}} }},
		{false, func(f *api.Frame) { f.Many = -1 }},
		{false, func(f *api.Frame) { f.Spent = -1 }},
		{false, func(f *api.Frame) { f.Spent = vm.Budget + 1 }},
	} {
		f := frame()
		x.turn(&f)
		if vm.Right(c, f) != x.want {
			t.Error(i, f)
		}
		if g, a, err := vm.Next(c, f); !x.want && (err != api.ErrArg || !reflect.DeepEqual(g, f) || !reflect.DeepEqual(a, api.Ask{})) {
			t.Error(i, g, a, err)
		}
	}
}

// P8.2
func TestValueAndKey(t *testing.T) {
	for _, kind := range []int{api.OGet, api.OPop, api.ORecv} {
		o := api.Op{Kind: kind}
		if vm.Value(o, 7, true) != 8 || vm.Value(o, 7, false) != 0 || vm.Value(o, api.Wrap-1, true) != 0 || vm.Value(o, -2, true) != api.Wrap-1 {
			t.Error(kind)
		}
	}
	for _, kind := range []int{api.OPut, api.ODel, api.OPush, api.OSend} {
		if o := (api.Op{Kind: kind}); vm.Value(o, 7, true) != 1 || vm.Value(o, 7, false) != 0 {
			t.Error(kind)
		}
	}
	for k, want := range map[int]int{0: 0, 65535: 65535, 65536: 0, 65537: 1, -1: 65535} {
		if vm.Key(k) != want {
			t.Error(k, vm.Key(k))
		}
	}
	f := frame()
	f.Many = 2
	if got := vm.Child(f); !slices.Equal(got, []int{1, 2}) || len(f.Path) != 1 {
		t.Error(got)
	}
}

// P8.3
func TestNext(t *testing.T) {
	for i, x := range []struct {
		l     []api.Ins
		ask   api.Ask
		stack []int
		pc    int
		spent int
	}{
		{[]api.Ins{ins(api.IPush, 2), ins(api.IPush, 3), ins(api.IMul), ins(api.IReturn)}, api.Ask{Kind: api.QReturn, A: 6}, nil, 4, 4},
		{[]api.Ins{ins(api.ILocal, 0), ins(api.ILocal, 1), ins(api.ISub), ins(api.IReturn)}, api.Ask{Kind: api.QReturn, A: 1<<32 - 1}, nil, 4, 4},
		{[]api.Ins{ins(api.IPush, 1<<32-1), ins(api.IPush, 3), ins(api.IAdd), ins(api.IReturn)}, api.Ask{Kind: api.QReturn, A: 2}, nil, 4, 4},
		{[]api.Ins{ins(api.IPush, 1<<32-1), ins(api.IPush, 1<<32-1), ins(api.IMul), ins(api.IReturn)}, api.Ask{Kind: api.QReturn, A: 1}, nil, 4, 4},
		{[]api.Ins{ins(api.IPush, 1<<32-1), ins(api.IPush, 1<<32-2), ins(api.IHalf), ins(api.IReturn)}, api.Ask{Kind: api.QReturn, A: 1<<32 - 2}, nil, 4, 4},
		{[]api.Ins{ins(api.IPush, 2), ins(api.IPush, 3), ins(api.ILess), ins(api.IReturn)}, api.Ask{Kind: api.QReturn, A: 1}, nil, 4, 4},
		{[]api.Ins{ins(api.IPush, 3), ins(api.IPush, 3), ins(api.ILess), ins(api.IReturn)}, api.Ask{Kind: api.QReturn}, nil, 4, 4},
		{[]api.Ins{ins(api.IPush, 3), ins(api.IPush, 3), ins(api.IEq), ins(api.IReturn)}, api.Ask{Kind: api.QReturn, A: 1}, nil, 4, 4},
		{[]api.Ins{ins(api.IPush, 7), ins(api.ILoad, 1)}, api.Ask{Kind: api.QLoad, A: 1}, []int{7}, 2, 2},
		{[]api.Ins{ins(api.IPush, 7), ins(api.IStore, 0)}, api.Ask{Kind: api.QStore, B: 7}, nil, 2, 2},
		{[]api.Ins{ins(api.IPush, 7), ins(api.IZero, 0), ins(api.ILoad, 1)}, api.Ask{Kind: api.QLoad, A: 1}, nil, 3, 3},
		{[]api.Ins{ins(api.IPush, 7), ins(api.IStore, 1)}, api.Ask{Kind: api.QStore, A: 1, B: 7}, nil, 2, 2},
		{[]api.Ins{ins(api.IPush, 7), ins(api.IPush, 65537), ins(api.IPush, 9), ins(api.ICall, api.OPut, 0, 2)}, api.Ask{Kind: api.QCall, Op: api.Op{Kind: api.OPut, A: 1, B: 9}}, []int{7}, 4, 4},
		{[]api.Ins{ins(api.IPush, 65537), ins(api.ICall, api.OGet, 0, 1)}, api.Ask{Kind: api.QCall, Op: api.Op{Kind: api.OGet, A: 1}}, nil, 2, 2},
		{[]api.Ins{ins(api.IPush, 65537), ins(api.ICall, api.ODel, 0, 1)}, api.Ask{Kind: api.QCall, Op: api.Op{Kind: api.ODel, A: 1}}, nil, 2, 2},
		{[]api.Ins{ins(api.IPush, 65537), ins(api.ICall, api.OPush, 0, 1)}, api.Ask{Kind: api.QCall, Op: api.Op{Kind: api.OPush, A: 65537}}, nil, 2, 2},
		{[]api.Ins{ins(api.ICall, api.OPop, 0, 0)}, api.Ask{Kind: api.QCall, Op: api.Op{Kind: api.OPop}}, nil, 1, 1},
		{[]api.Ins{ins(api.IPush, 65537), ins(api.ICall, api.OSend, 0, 1)}, api.Ask{Kind: api.QCall, Op: api.Op{Kind: api.OSend, A: 65537}}, nil, 2, 2},
		{[]api.Ins{ins(api.ICall, api.ORecv, 0, 0)}, api.Ask{Kind: api.QCall, Op: api.Op{Kind: api.ORecv}}, nil, 1, 1},
		{[]api.Ins{ins(api.IPush, 7), ins(api.ISpawn, 1, 1, -1)}, api.Ask{Kind: api.QSpawn, A: 1, B: -1, Args: []int{7}}, nil, 2, 2},
		{[]api.Ins{ins(api.IPush, 7), ins(api.ISpawn, 0, 0, 1)}, api.Ask{Kind: api.QSpawn, A: 0, B: 1}, []int{7}, 2, 2},
		{[]api.Ins{ins(api.ISync), ins(api.IPush, 1), ins(api.IPush, 2), ins(api.IDrop), ins(api.ILoad, 0)}, api.Ask{Kind: api.QLoad}, []int{1}, 5, 5},
		{[]api.Ins{ins(api.IJump, 2), ins(api.IPush, 9), ins(api.ILoad, 0)}, api.Ask{Kind: api.QLoad}, nil, 3, 2},
		{[]api.Ins{ins(api.IPush, 0), ins(api.IZero, 3), ins(api.IPush, 9), ins(api.ILoad, 0)}, api.Ask{Kind: api.QLoad}, nil, 4, 3},
		{[]api.Ins{ins(api.IPush, 1), ins(api.IZero, 3), ins(api.IPush, 9), ins(api.ILoad, 0)}, api.Ask{Kind: api.QLoad}, []int{9}, 4, 4},
		{[]api.Ins{ins(api.IPush, 8), ins(api.ISet, 1), ins(api.ILocal, 1), ins(api.IReturn)}, api.Ask{Kind: api.QReturn, A: 8}, nil, 4, 4},
	} {
		c, f := code(x.l...), frame()
		g, a, err := vm.Next(c, f)
		if len(a.Args) == 0 {
			a.Args = nil
		}
		if err != api.OK || !reflect.DeepEqual(a, x.ask) || !slices.Equal(g.Stack, x.stack) || g.Pc != x.pc || g.Spent != x.spent || g.Task != 3 || !slices.Equal(g.Path, []int{1}) || g.Fail {
			t.Errorf("%d: %v %v %v", i, g, a, err)
		}
		if !reflect.DeepEqual(f, frame()) {
			t.Errorf("%d: the frame was written into", i)
		}
	}
}

func TestNextOfKids(t *testing.T) {
	for i, x := range []struct {
		x    api.Ins
		dst  int
		sync bool
	}{
		{ins(api.ILocal, 1), 1, true}, {ins(api.ILocal, 0), 1, false}, {ins(api.ISet, 1), 1, true}, {ins(api.ISet, 0), 1, false},
		{ins(api.ISync), -1, true}, {ins(api.IReturn), -1, true}, {ins(api.IPush), 0, false}, {ins(api.ILoad), 0, false},
	} {
		f := frame()
		f.Stack, f.Kids = []int{7}, []api.Kid{{Task: 9, Dst: x.dst}}
		g, a, err := vm.Next(code(x.x, ins(api.ILoad, 1), ins(api.ILoad, 1)), f)
		if err != api.OK || (a.Kind == api.QSync) != x.sync || x.sync && !(reflect.DeepEqual(g, f) && reflect.DeepEqual(a, api.Ask{Kind: api.QSync})) {
			t.Errorf("%d: %v %v %v", i, g, a, err)
		}
	}
	f := frame()
	f.Kids = []api.Kid{{Task: 9, Dst: 1}}
	if _, a, err := vm.Next(code(ins(api.IReturn)), f); err != api.OK || a.Kind != api.QSync {
		t.Error("what waits asks nothing of the stack", a, err)
	}
	if _, a, err := vm.Next(code(ins(api.ISet, 1)), f); err != api.OK || a.Kind != api.QSync {
		t.Error("what waits asks nothing of the stack", a, err)
	}
}

func TestAssert(t *testing.T) {
	for n, want := range map[int]bool{0: true, 1: false, 5: false} {
		g, _, err := vm.Next(code(ins(api.IPush, n), ins(api.IAssert), ins(api.ILoad)), frame())
		if err != api.OK || g.Fail != want || g.Pc != 3 {
			t.Error(n, g, err)
		}
	}
	f := frame()
	f.Fail = true
	if g, _, _ := vm.Next(code(ins(api.IPush, 1), ins(api.IAssert), ins(api.ILoad)), f); !g.Fail {
		t.Error("what failed has failed")
	}
}

func TestNextWrong(t *testing.T) {
	full := slices.Repeat([]api.Ins{ins(api.IPush)}, vm.Deep)
	for i, x := range []struct {
		l    []api.Ins
		want api.Errno
	}{
		{nil, api.ErrArg},
		{[]api.Ins{ins(0)}, api.ErrArg}, {[]api.Ins{ins(20)}, api.ErrArg}, {[]api.Ins{ins(-1)}, api.ErrArg},
		{[]api.Ins{ins(api.IPush)}, api.ErrArg}, {[]api.Ins{ins(api.IPush, -1), ins(api.ILoad)}, api.ErrArg}, {[]api.Ins{ins(api.IPush, 1<<32), ins(api.ILoad)}, api.ErrArg},
		{[]api.Ins{ins(api.ILocal, 2)}, api.ErrArg}, {[]api.Ins{ins(api.IPush), ins(api.ISet, -1)}, api.ErrArg}, {[]api.Ins{ins(api.ISet)}, api.ErrArg},
		{[]api.Ins{ins(api.ILoad, 2)}, api.ErrArg}, {[]api.Ins{ins(api.ILoad, -1)}, api.ErrArg}, {[]api.Ins{ins(api.IPush), ins(api.IStore, 2)}, api.ErrArg}, {[]api.Ins{ins(api.IStore)}, api.ErrArg},
		{[]api.Ins{ins(api.IPush), ins(api.IAdd)}, api.ErrArg}, {[]api.Ins{ins(api.IDrop)}, api.ErrArg}, {[]api.Ins{ins(api.IAssert)}, api.ErrArg}, {[]api.Ins{ins(api.IReturn)}, api.ErrArg}, {[]api.Ins{ins(api.IZero)}, api.ErrArg},
		{[]api.Ins{ins(api.ICall, api.OGet, 0, 1)}, api.ErrArg}, {[]api.Ins{ins(api.IPush), ins(api.ICall, api.OGet, 1, 1)}, api.ErrArg}, {[]api.Ins{ins(api.IPush), ins(api.ICall, api.OPop, 0, 1)}, api.ErrArg}, {[]api.Ins{ins(api.ICall, api.OPushD, 0, 0)}, api.ErrArg}, {[]api.Ins{ins(api.ICall, 0, 0, 0)}, api.ErrArg}, {[]api.Ins{ins(api.ICall, api.OPop, -1, 0)}, api.ErrArg},
		{[]api.Ins{ins(api.ISpawn, 2, 0, 0)}, api.ErrArg}, {[]api.Ins{ins(api.ISpawn, 1, 1, 0)}, api.ErrArg}, {[]api.Ins{ins(api.IPush), ins(api.ISpawn, 0, 1, 0)}, api.ErrArg}, {[]api.Ins{ins(api.ISpawn, 0, 0, 2)}, api.ErrArg}, {[]api.Ins{ins(api.ISpawn, 0, 0, -2)}, api.ErrArg},
		{[]api.Ins{ins(api.IJump, -1)}, api.ErrArg}, {[]api.Ins{ins(api.IJump, 1)}, api.ErrArg}, {[]api.Ins{ins(api.IPush, 1), ins(api.IZero, 9), ins(api.ILoad)}, api.ErrArg}, {[]api.Ins{ins(api.IPush, 1), ins(api.IZero, -1), ins(api.ILoad)}, api.ErrArg},
		{append(slices.Clone(full), ins(api.IPush), ins(api.ILoad)), api.ErrArg}, {append(slices.Clone(full), ins(api.ILocal), ins(api.ILoad)), api.ErrArg},
		{[]api.Ins{ins(api.IJump, 0)}, api.ErrBudget},
	} {
		g, a, err := vm.Next(code(x.l...), frame())
		if err != x.want || err != api.OK && !(reflect.DeepEqual(g, frame()) && reflect.DeepEqual(a, api.Ask{})) {
			t.Errorf("%d: %v %v %v", i, g, a, err)
		}
	}
}

func TestBudget(t *testing.T) {
	f := frame()
	f.Spent = vm.Budget - 1
	if g, a, err := vm.Next(code(ins(api.ILoad)), f); err != api.OK || a.Kind != api.QLoad || g.Spent != vm.Budget {
		t.Error("the last instruction", g, a, err)
	}
	if _, _, err := vm.Next(code(ins(api.IPush), ins(api.ILoad)), f); err != api.ErrBudget {
		t.Error("one more", err)
	}
	f.Spent = vm.Budget
	f.Kids = []api.Kid{{Task: 1, Dst: -1}}
	if _, _, err := vm.Next(code(ins(api.ISync)), f); err != api.ErrBudget {
		t.Error("what waits, with nothing left", err)
	}
	f.Pc = 1
	if _, _, err := vm.Next(code(ins(api.ISync)), f); err != api.ErrBudget {
		t.Error("nothing left is named ahead of no instruction", err)
	}
}

// P8.4
func TestTold(t *testing.T) {
	base := func() api.Frame {
		f := frame()
		f.Stack, f.Kids, f.Many = []int{1}, []api.Kid{{Task: 2, Dst: 1}, {Task: 3, Dst: -1}, {Task: 4, Dst: 1}}, 3
		return f
	}
	for i, x := range []struct {
		a    api.Ask
		vals []int
		turn func(f *api.Frame)
	}{
		{api.Ask{Kind: api.QLoad}, []int{9}, func(f *api.Frame) { f.Stack = []int{1, 9} }},
		{api.Ask{Kind: api.QCall}, []int{1<<32 - 1}, func(f *api.Frame) { f.Stack = []int{1, 1<<32 - 1} }},
		{api.Ask{Kind: api.QStore}, nil, func(f *api.Frame) {}},
		{api.Ask{Kind: api.QSpawn, B: 1}, []int{9}, func(f *api.Frame) { f.Kids = append(f.Kids, api.Kid{Task: 9, Dst: 1}); f.Many = 4 }},
		{api.Ask{Kind: api.QSpawn, B: -1}, []int{1}, func(f *api.Frame) { f.Kids = append(f.Kids, api.Kid{Task: 1, Dst: -1}); f.Many = 4 }},
		{api.Ask{Kind: api.QSync}, []int{7, 8, 9}, func(f *api.Frame) { f.Kids, f.Local = nil, []int{4, 9} }},
		{api.Ask{Kind: api.QLoad}, nil, nil}, {api.Ask{Kind: api.QLoad}, []int{1, 2}, nil}, {api.Ask{Kind: api.QCall}, []int{-1}, nil}, {api.Ask{Kind: api.QCall}, []int{api.Wrap}, nil},
		{api.Ask{Kind: api.QStore}, []int{1}, nil},
		{api.Ask{Kind: api.QSpawn}, []int{0}, nil}, {api.Ask{Kind: api.QSpawn}, nil, nil}, {api.Ask{Kind: api.QSpawn}, []int{1, 2}, nil}, {api.Ask{Kind: api.QSpawn, B: 2}, []int{1}, nil}, {api.Ask{Kind: api.QSpawn, B: -2}, []int{1}, nil},
		{api.Ask{Kind: api.QSync}, []int{7, 8}, nil}, {api.Ask{Kind: api.QSync}, []int{7, 8, 9, 10}, nil}, {api.Ask{Kind: api.QSync}, []int{7, -8, 9}, nil},
		{api.Ask{Kind: api.QReturn}, nil, nil}, {api.Ask{}, nil, nil}, {api.Ask{Kind: 7}, nil, nil},
	} {
		f, want, code := base(), base(), api.ErrArg
		if x.turn != nil {
			x.turn(&want)
			code = api.OK
		}
		g, err := vm.Told(f, x.a, x.vals)
		if err != code || !reflect.DeepEqual(g, want) || !reflect.DeepEqual(f, base()) {
			t.Errorf("%d: %v %v", i, g, err)
		}
	}
	f := frame()
	f.Kids = []api.Kid{{Task: 1, Dst: 0}}
	if g, err := vm.Told(f, api.Ask{Kind: api.QSync}, []int{8}); err != api.OK || !slices.Equal(g.Local, []int{8, 5}) {
		t.Error("the first local", g, err)
	}
	f.Kids[0].Dst = -2
	if _, err := vm.Told(f, api.Ask{Kind: api.QSync}, []int{8}); err != api.ErrArg {
		t.Error("a Kid's Dst below -1", err)
	}
	f.Stack = make([]int, vm.Deep)
	if _, err := vm.Told(f, api.Ask{Kind: api.QLoad}, []int{1}); err != api.ErrArg {
		t.Error("a stack of Deep", err)
	}
	f.Kids = []api.Kid{{Task: 1, Dst: 2}}
	if _, err := vm.Told(f, api.Ask{Kind: api.QSync}, []int{1}); err != api.ErrArg {
		t.Error("a Kid's Dst that there is not", err)
	}
}

// What is handed in isn't written into, though there be room behind it.
func TestRoom(t *testing.T) {
	f := frame()
	stack, kids, path := []int{1, 9, 9}, []api.Kid{{Task: 5}, {Task: 9}}, []int{1, 9}
	f.Stack, f.Kids, f.Path = stack[:1], kids[:1], path[:1]
	vm.Next(code(ins(api.IPush, 4), ins(api.IPush, 4), ins(api.ILoad)), f)
	vm.Next(code(ins(api.IDrop), ins(api.IPush, 4), ins(api.ILoad)), f)
	vm.Told(f, api.Ask{Kind: api.QLoad}, []int{4})
	vm.Told(f, api.Ask{Kind: api.QSpawn, B: 1}, []int{4})
	vm.Child(f)
	if !slices.Equal(stack, []int{1, 9, 9}) || kids[1] != (api.Kid{Task: 9}) || path[1] != 9 {
		t.Error(stack, kids, path)
	}
}

// P8.5
func TestAgain(t *testing.T) {
	c := code(ins(api.ILocal, 0), ins(api.ISpawn, 1, 1, 1), ins(api.ILocal, 1), ins(api.IReturn))
	f, _ := vm.Start(c, 0, nil, 1, nil)
	g, a, _ := vm.Next(c, f)
	g2, a2, _ := vm.Next(c, f)
	if !reflect.DeepEqual(g, g2) || !reflect.DeepEqual(a, a2) || !vm.Right(c, g) {
		t.Fatal("asked again", g, g2)
	}
	g, _ = vm.Told(g, a, []int{2})
	g, a, _ = vm.Next(c, g)
	if a.Kind != api.QSync {
		t.Fatal(a)
	}
	g, _ = vm.Told(g, a, []int{77})
	if g, a, _ = vm.Next(c, g); a.Kind != api.QReturn || a.A != 77 || g.Many != 1 {
		t.Error("what is read of a local was told by its child", a, g)
	}
}
