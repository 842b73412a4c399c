package race_test

import (
	"fmt"
	"slices"
	"testing"

	"underwood/api"
	"underwood/elide"
	"underwood/race"
	"underwood/sample"
	"underwood/spec"
)

func run(_ *testing.T, text string) api.Elided { return elide.Run(sample.Code(text)) }

// P13.1
func TestConflict(t *testing.T) {
	use := func(thing, obj, kind, a int) api.Use {
		return api.Use{Thing: thing, Obj: obj, Op: api.Op{Kind: kind, A: a}}
	}
	for i, x := range []struct {
		a, b api.Use
		want bool
	}{
		{use(0, 0, 0, 0), use(0, 0, 0, 0), false}, {use(0, 0, 0, 0), use(0, 0, 1, 0), true}, {use(0, 0, 1, 5), use(0, 0, 1, 5), true}, {use(0, 0, 1, 5), use(0, 1, 1, 5), false},
		{use(api.KMap, 0, api.OGet, 5), use(api.KMap, 0, api.OGet, 5), false}, {use(api.KMap, 0, api.OGet, 5), use(api.KMap, 0, api.OPut, 5), true}, {use(api.KMap, 0, api.OGet, 5), use(api.KMap, 0, api.OPut, 6), false}, {use(api.KMap, 0, api.OPut, 5), use(api.KMap, 1, api.OPut, 5), false},
		{use(api.KStack, 0, api.OPush, 5), use(api.KStack, 0, api.OPush, 5), true}, {use(api.KChan, 0, api.OSend, 5), use(api.KChan, 0, api.ORecv, 0), true}, {use(api.KChan, 0, api.OSend, 5), use(api.KStack, 0, api.OPop, 0), false},
		{use(0, 0, 1, 5), use(api.KMap, 0, api.OPut, 5), false},
	} {
		if race.Conflict(x.a, x.b) != x.want || race.Conflict(x.b, x.a) != x.want {
			t.Error(i)
		}
	}
}

// P13.2
func TestPairs(t *testing.T) {
	head := "cell x; cell y; map m; stack s; func f() { x = 2; } func r() { a = x; } func put(k) { m.put(k, 1); } func push() { s.push(1); } func pair() { spawn f(); spawn r(); } "
	for text, want := range map[string][]api.Race{
		"spawn f(); x = 1;":                             {{One: 0, Two: 1}},
		"spawn f(); sync; x = 1;":                       nil,
		"spawn f(); y = 1;":                             nil,
		"x = 1; spawn f();":                             nil,
		"spawn r(); a = x;":                             nil,
		"spawn r(); x = 1;":                             {{One: 0, Two: 1}},
		"spawn f(); spawn f(); spawn r(); sync; x = 1;": {{One: 0, Two: 1}, {One: 0, Two: 2}, {One: 1, Two: 2}},
		"a = spawn r(); b = a; x = 1;":                  nil,
		"spawn put(1); spawn put(2);":                   nil,
		"spawn put(1); spawn put(65537);":               {{One: 0, Two: 1}},
		"spawn put(1); a = m.get(1);":                   {{One: 0, Two: 1}},
		"spawn push(); spawn push();":                   {{One: 0, Two: 1}},
		"par put(0, 5);":                                nil,
		"spawn pair(); sync; x = 1;":                    {{One: 0, Two: 1}},
		"spawn pair(); x = 1;":                          {{One: 0, Two: 1}, {One: 0, Two: 2}, {One: 1, Two: 2}},
		"spawn f(); a = x; b = x;":                      {{One: 0, Two: 1}, {One: 0, Two: 2}},
	} {
		e := run(t, head+"func main() { "+text+" }")
		if e.Err != api.OK {
			t.Fatal(text, e.Err)
		}
		got, err := race.Pairs(e)
		if err != api.OK || !slices.Equal(got, want) {
			t.Errorf("%q: %v %v", text, got, err)
		}
		first, err := race.Find(e)
		if len(want) == 0 && (err != api.ErrNone || first != (api.Race{})) || len(want) > 0 && (err != api.OK || first != want[0]) {
			t.Errorf("%q: %v %v", text, first, err)
		}
	}
}

func TestWrong(t *testing.T) {
	e := api.Elided{Split: []api.Split{{Kind: 9}}, Uses: []api.Use{{Op: api.Op{Kind: 1}}}}
	if l, err := race.Pairs(e); err != api.ErrArg || len(l) != 0 {
		t.Error(l, err)
	}
	if r, err := race.Find(e); err != api.ErrArg || r != (api.Race{}) {
		t.Error(r, err)
	}
	if _, err := race.Find(api.Elided{}); err != api.ErrNone {
		t.Error(err)
	}
}

// P13.3
func TestBeginnings(t *testing.T) {
	e := run(t, "cell x; func f() { x = x + 1; } func main() { spawn f(); spawn f(); x = 3; sync; x = 4; }")
	whole, _ := race.Pairs(e)
	if len(whole) == 0 {
		t.Fatal("no races")
	}
	for n := range e.Uses {
		part := e
		part.Uses = e.Uses[:n]
		got, _ := race.Pairs(part)
		want := slices.DeleteFunc(slices.Clone(whole), func(r api.Race) bool { return r.Two >= n })
		if !slices.Equal(got, want) {
			t.Error(n, got, want)
		}
	}
}

// P13.4: uses of strands that are parallel may change places where there is no race.
func TestOtherOrders(t *testing.T) {
	e := run(t, "map m; cell x; cell y; func f(k) { m.put(k, k); y2 = y; x2 = m.get(k); } func main() { y = 3; par f(0, 4); x = 1; sync; }")
	if _, err := race.Find(e); err != api.ErrNone {
		t.Fatal(err)
	}
	c, d := spec.New(api.KMap), spec.New(api.KMap)
	var ops []api.Op
	for _, u := range e.Uses {
		if u.Thing == api.KMap {
			ops = append(ops, u.Op)
		}
	}
	c, _, _ = spec.All(c, ops)
	slices.Reverse(ops)
	for i := 0; i+1 < len(ops); i += 2 { // each task's own stay in order
		ops[i], ops[i+1] = ops[i+1], ops[i]
	}
	d, _, is := spec.All(d, ops)
	if fmt.Sprint(c) != fmt.Sprint(d) || slices.Contains(is, false) {
		t.Error(c, d, is)
	}
}
