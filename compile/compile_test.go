package compile_test

import (
	"reflect"
	"slices"
	"strings"
	"testing"

	"underwood/api"
	"underwood/compile"
	"underwood/parse"
)

func code(t *testing.T, text string) api.Code {
	t.Helper()
	p, err := parse.Of(text)
	if err != api.OK {
		t.Fatalf("%q: %v", text, err)
	}
	c, err := compile.Of(p)
	if err != api.OK {
		t.Fatalf("%q: %v", text, err)
	}
	return c
}

func ins(op int, more ...int) api.Ins {
	x := api.Ins{Op: op}
	for i, to := range []*int{&x.A, &x.B, &x.C} {
		if i < len(more) {
			*to = more[i]
		}
	}
	return x
}

var end = []api.Ins{ins(api.IPush, 0), ins(api.IReturn)}

// P7.1, P7.2
func TestInstructions(t *testing.T) {
	head := "cell x; map m0; cell y; stack s0; chan c0; map m; stack s; chan c; func f(a) { } func g() { }"
	for text, want := range map[string][]api.Ins{
		"":                                      {},
		"if x < 1 { x = 2; }":                   {ins(api.ILoad, 0), ins(api.IPush, 1), ins(api.ILess), ins(api.IZero, 6), ins(api.IPush, 2), ins(api.IStore, 0)},
		"if y { sync; } else { a = 1; }":        {ins(api.ILoad, 1), ins(api.IZero, 4), ins(api.ISync), ins(api.IJump, 6), ins(api.IPush, 1), ins(api.ISet, 0)},
		"while b { b = b - 1; }":                {ins(api.ILocal, 0), ins(api.IZero, 7), ins(api.ILocal, 0), ins(api.IPush, 1), ins(api.ISub), ins(api.ISet, 0), ins(api.IJump, 0)},
		"a = 1 + 2 * 3; b = a == (1 < 2);":      {ins(api.IPush, 1), ins(api.IPush, 2), ins(api.IPush, 3), ins(api.IMul), ins(api.IAdd), ins(api.ISet, 0), ins(api.ILocal, 0), ins(api.IPush, 1), ins(api.IPush, 2), ins(api.ILess), ins(api.IEq), ins(api.ISet, 1)},
		"m.put(1, 2); a = m.get(3); m0.del(4);": {ins(api.IPush, 1), ins(api.IPush, 2), ins(api.ICall, api.OPut, 1, 2), ins(api.IDrop), ins(api.IPush, 3), ins(api.ICall, api.OGet, 1, 1), ins(api.ISet, 0), ins(api.IPush, 4), ins(api.ICall, api.ODel, 0, 1), ins(api.IDrop)},
		"s.push(1); s0.pop();":                  {ins(api.IPush, 1), ins(api.ICall, api.OPush, 1, 1), ins(api.IDrop), ins(api.ICall, api.OPop, 0, 0), ins(api.IDrop)},
		"c.send(1); c0.recv();":                 {ins(api.IPush, 1), ins(api.ICall, api.OSend, 1, 1), ins(api.IDrop), ins(api.ICall, api.ORecv, 0, 0), ins(api.IDrop)},
		"a = spawn f(7); spawn g();":            {ins(api.IPush, 7), ins(api.ISpawn, 0, 1, 0), ins(api.ISpawn, 1, 0, -1)},
		"assert 1; return 2;":                   {ins(api.IPush, 1), ins(api.IAssert), ins(api.IPush, 2), ins(api.IReturn)},
		"b = 1; a = par f(1, 2); par f(3, 4);":  {ins(api.IPush, 1), ins(api.ISet, 0), ins(api.IPush, 1), ins(api.IPush, 2), ins(api.ISpawn, 3, 2, 1), ins(api.IPush, 3), ins(api.IPush, 4), ins(api.ISpawn, 3, 2, -1)},
	} {
		c := code(t, head+"func main() { "+text+" }")
		if got := c.Funs[2].Ins; !slices.Equal(got, slices.Concat(want, end)) {
			t.Errorf("%q: %v", text, got)
		}
		if !compile.Right(c) {
			t.Errorf("%q: what Of tells is right", text)
		}
		if c.Main != 2 || c.Maps != 2 || c.Stacks != 2 || c.Chans != 2 || !slices.Equal(c.Cells, []int{0, 0}) {
			t.Errorf("%q: %v", text, c)
		}
	}
}

// P7.1, P7.3
func TestHelpers(t *testing.T) {
	c := code(t, "cell a = 9; cell b; cell c = 4294967295; func main() { x = par g(1, 2); par f(1, 2); par g(3, 4); } func f(i) { y = 1; } func g(i) { }")
	if len(c.Funs) != 5 || c.Main != 0 || !slices.Equal(c.Cells, []int{9, 0, 1<<32 - 1}) {
		t.Fatal(c)
	}
	if c.Funs[1].Args != 1 || c.Funs[1].Locals != 2 || c.Funs[0].Locals != 1 || c.Funs[0].Args != 0 {
		t.Error("arguments and locals", c.Funs)
	}
	for i, f := range map[int]int{3: 2, 4: 1} {
		want := api.Body{Args: 2, Locals: 5, Ins: []api.Ins{
			ins(api.ILocal, 0), ins(api.ILocal, 1), ins(api.ILess), ins(api.IZero, 28), ins(api.ILocal, 0), ins(api.IPush, 1), ins(api.IAdd), ins(api.ILocal, 1), ins(api.IEq), ins(api.IZero, 14),
			ins(api.ILocal, 0), ins(api.ISpawn, f, 1, 3), ins(api.ILocal, 3), ins(api.IReturn),
			ins(api.ILocal, 0), ins(api.ILocal, 1), ins(api.IHalf), ins(api.ISet, 2), ins(api.ILocal, 0), ins(api.ILocal, 2), ins(api.ISpawn, i, 2, 3),
			ins(api.ILocal, 2), ins(api.ILocal, 1), ins(api.ISpawn, i, 2, 4), ins(api.ILocal, 3), ins(api.ILocal, 4), ins(api.IAdd), ins(api.IReturn),
			ins(api.IPush, 0), ins(api.IReturn)}}
		if !reflect.DeepEqual(c.Funs[i], want) {
			t.Errorf("helper %d: %v", i, c.Funs[i])
		}
	}
	for _, x := range c.Funs[0].Ins {
		if x.Op == api.ISpawn && x.A != 3 && x.A != 4 {
			t.Error("a par spawns", x)
		}
	}
}

func TestOfWrong(t *testing.T) {
	long := func(n int) string { return "func main() { " + strings.Repeat("sync;", n) + " }" }
	for text, want := range map[string]api.Errno{
		"func main() { x = y; }":         api.ErrName,
		"cell a; cell a; func main() {}": api.ErrTwice,
		long(399):                        api.ErrBound,
	} {
		p, _ := parse.Of(text)
		if c, err := compile.Of(p); err != want || !reflect.DeepEqual(c, api.Code{}) {
			t.Errorf("Of(%.30q) = %v %v", text, c, err)
		}
	}
	if c := code(t, long(398)); len(c.Funs[0].Ins) != api.MaxIns {
		t.Error("a function of MaxIns instructions", len(c.Funs[0].Ins))
	}
}

func of(l ...api.Ins) api.Code {
	return api.Code{Funs: []api.Body{{Ins: l, Locals: 2}}, Cells: []int{0}, Maps: 1, Stacks: 1, Chans: 1}
}

// P7.4
func TestHeights(t *testing.T) {
	for i, x := range []struct {
		l    []api.Ins
		want []int
	}{
		{[]api.Ins{ins(api.IPush), ins(api.IReturn)}, []int{0, 1}},
		{[]api.Ins{ins(api.IPush), ins(api.IReturn), ins(api.IAdd)}, []int{0, 1, -1}},
		{[]api.Ins{ins(api.ILocal), ins(api.ILoad), ins(api.IAdd), ins(api.ISet), ins(api.IPush), ins(api.IReturn)}, []int{0, 1, 2, 1, 0, 1}},
		{[]api.Ins{ins(api.IPush), ins(api.IPush), ins(api.IPush), ins(api.ICall, 2, 0, 2), ins(api.ISpawn, 0, 2, 0), ins(api.ISync), ins(api.IJump, 5)}, []int{0, 1, 2, 3, 2, 0, 0}},
		{[]api.Ins{ins(api.IPush), ins(api.IZero, 4), ins(api.IPush), ins(api.IDrop), ins(api.IPush), ins(api.IReturn)}, []int{0, 1, 0, 1, 0, 1}},
		{[]api.Ins{ins(api.IPush), ins(api.IPush), ins(api.IHalf), ins(api.IAssert), ins(api.IPush), ins(api.IStore), ins(api.IJump, 0)}, []int{0, 1, 2, 1, 0, 1, 0}},
		{[]api.Ins{ins(api.IPush), ins(api.IReturn), ins(api.IDrop), ins(api.IJump, 2)}, []int{0, 1, -1, -1}},
		{nil, nil},
		{[]api.Ins{ins(api.IPush)}, nil},
		{[]api.Ins{ins(api.IReturn)}, nil},
		{[]api.Ins{ins(api.IPush), ins(api.IAdd), ins(api.IReturn)}, nil},
		{[]api.Ins{ins(api.IJump, -1)}, nil},
		{[]api.Ins{ins(api.IJump, 1)}, nil},
		{[]api.Ins{ins(api.IPush), ins(api.IZero, 9), ins(api.IJump, 2)}, nil},
		{[]api.Ins{ins(api.IPush), ins(api.IJump, 0)}, nil},
		{[]api.Ins{ins(api.IPush), ins(api.IZero, 3), ins(api.IPush), ins(api.IPush), ins(api.IReturn)}, nil},
		{[]api.Ins{ins(api.ICall, 1, 0, -1), ins(api.IReturn)}, nil},
		{[]api.Ins{ins(api.ISpawn, 0, -1, 0), ins(api.IJump, 1)}, nil},
		{[]api.Ins{ins(api.IPush), ins(api.IReturn), ins(0)}, nil},
		{[]api.Ins{ins(api.IPush), ins(api.IReturn), ins(20)}, nil},
	} {
		if got := compile.Heights(of(x.l...), 0); !slices.Equal(got, x.want) {
			t.Errorf("%d: %v", i, got)
		}
	}
	c := of(ins(api.IPush), ins(api.IReturn))
	if compile.Heights(c, 1) != nil || compile.Heights(c, -1) != nil {
		t.Error("heights of no function")
	}
}

// P7.5
func TestRight(t *testing.T) {
	ret := []api.Ins{ins(api.IPush), ins(api.IReturn)}
	good := func() api.Code {
		c := of(ret...)
		c.Funs = append(c.Funs, api.Body{Args: 1, Locals: 16, Ins: ret})
		return c
	}
	if !compile.Right(good()) {
		t.Fatal("a code that is right")
	}
	for i, turn := range []func(c *api.Code){
		func(c *api.Code) { c.Funs = c.Funs[:1] },
		func(c *api.Code) { c.Funs = slices.Repeat(c.Funs[:1], 32) },
		func(c *api.Code) { c.Main, c.Funs[1].Args = 1, 0 },
		func(c *api.Code) { c.Cells = make([]int, 16) },
		func(c *api.Code) { c.Cells = nil },
		func(c *api.Code) { c.Cells[0] = api.Wrap - 1 },
		func(c *api.Code) { c.Maps, c.Stacks, c.Chans = 8, 8, 8 },
		func(c *api.Code) { c.Maps, c.Stacks, c.Chans = 0, 0, 0 },
		func(c *api.Code) { c.Funs[1].Args, c.Funs[1].Locals = 16, 16 },
		func(c *api.Code) { c.Funs[1].Ins = []api.Ins{ins(api.IJump)} },
		func(c *api.Code) { c.Funs[1].Ins = append(slices.Repeat([]api.Ins{ins(api.ISync)}, 398), ret...) },
	} {
		c := good()
		turn(&c)
		if !compile.Right(c) {
			t.Errorf("%d: %v is not right", i, c)
		}
	}
	for i, turn := range []func(c *api.Code){
		func(c *api.Code) { c.Funs = nil },
		func(c *api.Code) { c.Funs = slices.Repeat(c.Funs[:1], 33) },
		func(c *api.Code) { c.Main = 2 },
		func(c *api.Code) { c.Main = -1 },
		func(c *api.Code) { c.Main = 1 },
		func(c *api.Code) { c.Cells = make([]int, 17) },
		func(c *api.Code) { c.Cells[0] = -1 },
		func(c *api.Code) { c.Cells[0] = api.Wrap },
		func(c *api.Code) { c.Maps = 9 },
		func(c *api.Code) { c.Stacks = -1 },
		func(c *api.Code) { c.Chans = 9 },
		func(c *api.Code) { c.Funs[1].Args = -1 },
		func(c *api.Code) { c.Funs[1].Locals = 0 },
		func(c *api.Code) { c.Funs[1].Locals = 17 },
		func(c *api.Code) { c.Funs[1].Ins = nil },
		func(c *api.Code) { c.Funs[1].Ins = append(slices.Repeat([]api.Ins{ins(api.ISync)}, 399), ret...) },
		func(c *api.Code) { c.Funs[1].Ins = []api.Ins{ins(api.IReturn)} },
	} {
		c := good()
		turn(&c)
		if compile.Right(c) {
			t.Errorf("%d: %v is right", i, c)
		}
	}
	for x, want := range map[api.Ins]bool{
		ins(api.IPush, 1<<32-1): true, ins(api.IPush, 1<<32): false, ins(api.IPush, -1): false,
		ins(api.ILocal, 15): true, ins(api.ILocal, 16): false, ins(api.ISet, -1): false, ins(api.ISet, 0, 7, 7): true,
		ins(api.ILoad, 0): true, ins(api.ILoad, 1): false, ins(api.IStore, -1): false,
		ins(api.ICall, api.OGet, 0, 1): true, ins(api.ICall, api.OGet, 0, 2): false, ins(api.ICall, api.OPut, 0, 2): true, ins(api.ICall, api.OPut, 0, 1): false, ins(api.ICall, api.ODel, 0, 1): true, ins(api.ICall, api.ODel, 1, 1): false,
		ins(api.ICall, api.OPush, 0, 1): true, ins(api.ICall, api.OPush, -1, 1): false, ins(api.ICall, api.OPop, 0, 0): true, ins(api.ICall, api.OPop, 0, 1): false,
		ins(api.ICall, api.OSend, 0, 1): true, ins(api.ICall, api.ORecv, 0, 0): true, ins(api.ICall, api.ORecv, 1, 0): false, ins(api.ICall, 0, 0, 0): false, ins(api.ICall, api.OPushD, 0, 1): false,
		ins(api.ISpawn, 0, 0, -1): true, ins(api.ISpawn, 1, 1, 15): true, ins(api.ISpawn, 1, 0, 0): false, ins(api.ISpawn, 2, 0, 0): false, ins(api.ISpawn, 0, 0, 16): false, ins(api.ISpawn, 0, 0, -2): false,
		ins(api.IJump, 1): true, ins(api.IHalf): true, ins(20): false, ins(0): false,
	} {
		c := good()
		c.Funs[1].Ins = append(slices.Clone(ret), x) // where nothing comes to it
		if compile.Right(c) != want {
			t.Errorf("%v: want %v", x, want)
		}
	}
}

// P7.6
func TestNamesPlayNoPart(t *testing.T) {
	a := code(t, "func main() { x = 1; y = x + 2; par f(x, y); } func f(i) { }")
	b := code(t, "func main() { y = 1; x = y + 2; par f(y, x); } func f(i) { }")
	if !reflect.DeepEqual(a, b) {
		t.Error(a, b)
	}
	more := code(t, "func main() { x = 1; y = x + 2; par f(x, y); } func f(i) { } func g() { }")
	if !reflect.DeepEqual(more.Funs[1], a.Funs[1]) || len(more.Funs) != 4 || more.Funs[3].Ins[20].A != 3 || more.Funs[0].Ins[8].A != 3 {
		t.Error("helpers stand behind all functions", more)
	}
}
