package spec_test

import (
	"math"
	"slices"
	"testing"

	"underwood/api"
	"underwood/spec"
)

func kmap(pairs ...int) api.Content {
	c := api.Content{Kind: api.KMap}
	for i := 0; i < len(pairs); i += 2 {
		c.Keys, c.Vals = append(c.Keys, pairs[i]), append(c.Vals, pairs[i+1])
	}
	return c
}

func row(kind int, vals ...int) api.Content { return api.Content{Kind: kind, Vals: vals} }

func same(a, b api.Content) bool {
	return a.Kind == b.Kind && slices.Equal(a.Keys, b.Keys) && slices.Equal(a.Vals, b.Vals)
}

// P9.1
func TestNewRightOf(t *testing.T) {
	for _, kind := range []int{api.KMap, api.KStack, api.KChan} {
		if c := spec.New(kind); !same(c, api.Content{Kind: kind}) || !spec.Right(c) {
			t.Error("New", kind, c)
		}
	}
	if c := spec.New(9); c.Kind != 9 || spec.Right(c) || spec.Right(spec.New(api.KCell)) {
		t.Error("kinds of no object")
	}
	for _, x := range []struct {
		c    api.Content
		want bool
	}{
		{kmap(1, 9, 5, 9), true}, {kmap(-3, 0, 5, -1), true}, {kmap(5, 1, 5, 1), false}, {kmap(5, 1, 4, 1), false},
		{api.Content{Kind: api.KMap, Keys: []int{1}}, false}, {api.Content{Kind: api.KMap, Vals: []int{1}}, false},
		{row(api.KStack, 3, 1, 1), true}, {row(api.KChan, -3), true},
		{api.Content{Kind: api.KStack, Keys: []int{1}, Vals: []int{1}}, false}, {api.Content{Kind: api.KChan, Keys: []int{1}}, false},
	} {
		if spec.Right(x.c) != x.want {
			t.Error("Right", x.c)
		}
	}
	for op, want := range map[int]int{0: api.KCell, api.OGet: api.KMap, api.OPut: api.KMap, api.ODel: api.KMap, api.OPush: api.KStack, api.OPop: api.KStack, api.OSend: api.KChan, api.ORecv: api.KChan, api.OPushD: api.KCell, -1: api.KCell, 99: api.KCell} {
		if spec.Of(op) != want {
			t.Error("Of", op)
		}
	}
}

// P9.2
func TestDo(t *testing.T) {
	for i, x := range []struct {
		c    api.Content
		o    api.Op
		want api.Content
		val  int
		is   bool
	}{
		{kmap(5, 7), api.Op{Kind: api.OGet, A: 5}, kmap(5, 7), 7, true},
		{kmap(5, 7), api.Op{Kind: api.OGet, A: 6}, kmap(5, 7), 0, false},
		{kmap(5, 7), api.Op{Kind: api.OPut, A: 5, B: 9}, kmap(5, 7), 0, false},
		{kmap(5, 7), api.Op{Kind: api.OPut, A: 3, B: 9}, kmap(3, 9, 5, 7), 0, true},
		{kmap(5, 7), api.Op{Kind: api.OPut, A: 8, B: 9}, kmap(5, 7, 8, 9), 0, true},
		{kmap(5, 7, 9, 1), api.Op{Kind: api.OPut, A: 6, B: -9}, kmap(5, 7, 6, -9, 9, 1), 0, true},
		{kmap(), api.Op{Kind: api.OPut, A: math.MinInt, B: 1}, kmap(math.MinInt, 1), 0, true},
		{kmap(5, 7, 6, 8), api.Op{Kind: api.ODel, A: 5}, kmap(6, 8), 0, true},
		{kmap(5, 7, 6, 8), api.Op{Kind: api.ODel, A: 7}, kmap(5, 7, 6, 8), 0, false},
		{row(api.KStack, 1), api.Op{Kind: api.OPush, A: 2}, row(api.KStack, 2, 1), 0, true},
		{row(api.KStack, 2, 1), api.Op{Kind: api.OPop}, row(api.KStack, 1), 2, true},
		{row(api.KStack), api.Op{Kind: api.OPop}, row(api.KStack), 0, false},
		{row(api.KChan, 1), api.Op{Kind: api.OSend, A: 2}, row(api.KChan, 1, 2), 0, true},
		{row(api.KChan, 1, 2), api.Op{Kind: api.ORecv}, row(api.KChan, 2), 1, true},
		{row(api.KChan), api.Op{Kind: api.ORecv}, row(api.KChan), 0, false},
		{row(api.KChan, 1), api.Op{Kind: api.OPop}, row(api.KChan, 1), 0, false},
		{row(api.KStack, 1), api.Op{Kind: api.OGet, A: 1}, row(api.KStack, 1), 0, false},
		{kmap(5, 7), api.Op{Kind: api.OPush, A: 5}, kmap(5, 7), 0, false},
		{kmap(5, 7), api.Op{Kind: 0, A: 5}, kmap(5, 7), 0, false},
	} {
		was := api.Content{Kind: x.c.Kind, Keys: slices.Clone(x.c.Keys), Vals: slices.Clone(x.c.Vals)}
		got, val, is := spec.Do(x.c, x.o)
		if !same(got, x.want) || val != x.val || is != x.is || !same(x.c, was) {
			t.Error(i, got, val, is)
		}
	}
}

// P9.3, P9.5
func TestAll(t *testing.T) {
	c, vals, is := spec.All(kmap(5, 7), []api.Op{{Kind: api.OPut, A: 5, B: 9}, {Kind: api.ODel, A: 5}, {Kind: api.OGet, A: 5}, {Kind: api.OPush}})
	if !same(c, kmap()) || !slices.Equal(vals, []int{0, 0, 0, 0}) || !slices.Equal(is, []bool{false, true, false, false}) {
		t.Error(c, vals, is)
	}
	push, pop := func(n int) api.Op { return api.Op{Kind: api.OPush, A: n} }, api.Op{Kind: api.OPop}
	if c, vals, _ := spec.All(spec.New(api.KStack), []api.Op{push(1), push(2), pop, push(3), pop, pop, pop}); len(c.Vals) != 0 || !slices.Equal(vals, []int{0, 0, 2, 0, 3, 1, 0}) {
		t.Error("last first", vals)
	}
	send, recv := func(n int) api.Op { return api.Op{Kind: api.OSend, A: n} }, api.Op{Kind: api.ORecv}
	if c, vals, _ := spec.All(spec.New(api.KChan), []api.Op{send(1), send(2), recv, send(3), recv, recv, recv}); len(c.Vals) != 0 || !slices.Equal(vals, []int{0, 0, 1, 0, 2, 3, 0}) {
		t.Error("first first", vals)
	}
}

// P9.4, P9.5
func TestCommute(t *testing.T) {
	op := func(kind, a int) api.Op { return api.Op{Kind: kind, A: a} }
	for i, x := range []struct {
		a, b api.Op
		want bool
	}{
		{op(api.OGet, 1), op(api.OGet, 1), true}, {op(api.OGet, 1), op(api.OPut, 1), false}, {op(api.OGet, 1), op(api.OPut, 2), true},
		{op(api.ODel, 1), op(api.ODel, 1), false}, {op(api.OPut, 1), op(api.ODel, 3), true},
		{op(api.OPush, 1), op(api.OPush, 1), false}, {op(api.OPop, 1), op(api.OPop, 2), false}, {op(api.OSend, 1), op(api.ORecv, 2), false},
		{op(api.OPop, 1), op(api.ORecv, 1), true}, {op(api.OPut, 1), op(api.OPush, 1), true}, {op(0, 1), op(0, 2), false}, {op(0, 1), op(api.OGet, 1), true},
	} {
		if spec.Commute(x.a, x.b) != x.want || spec.Commute(x.b, x.a) != x.want {
			t.Error(i, x)
		}
	}
	var ops []api.Op
	for kind := api.OGet; kind <= api.ORecv; kind++ {
		ops = append(ops, api.Op{Kind: kind, A: 5, B: 1}, api.Op{Kind: kind, A: 6, B: 2})
	}
	for _, c := range []api.Content{kmap(), kmap(5, 9), kmap(5, 9, 6, 9), row(api.KStack, 1, 2), row(api.KChan, 3), row(api.KStack)} {
		for _, a := range ops {
			for _, b := range ops {
				if !spec.Commute(a, b) {
					continue
				}
				x, v, is := spec.All(c, []api.Op{a, b})
				y, w, was := spec.All(c, []api.Op{b, a})
				if !same(x, y) || v[0] != w[1] || v[1] != w[0] || is[0] != was[1] || is[1] != was[0] || !spec.Right(x) {
					t.Error(c, a, b)
				}
			}
		}
	}
}
