package point_test

import (
	"math"
	"slices"
	"testing"

	"underwood/api"
	"underwood/point"
	"underwood/spec"
)

func cas(seat, cell int, ok bool) api.Event {
	return api.Event{Worker: seat, Seat: seat, Access: api.Access{Kind: api.ACas, Cell: cell}, Result: api.Result{Ok: ok}}
}

func other(seat, cell int) api.Event {
	return api.Event{Worker: seat, Seat: seat, Access: api.Access{Kind: api.AStore, Cell: cell}, Result: api.Result{Ok: true}}
}

// Seat 0 offers at step 3 in the cell 7; seat 1 takes it at step 8.
func events() []api.Event {
	return []api.Event{other(0, 1), other(0, 2), other(1, 7), cas(0, 7, true), cas(1, 7, false), cas(1, 6, true), cas(0, 7, true), other(1, 7), cas(1, 7, true), cas(2, 7, true), other(0, 9)}
}

func call(who, kind, first, last, p int) api.Call {
	return api.Call{Who: who, Op: api.Op{Kind: kind, A: 5}, Val: 77, Is: true, First: first, Last: last, Point: p}
}

// P28.1
func TestSteps(t *testing.T) {
	for i, x := range []struct {
		c    api.Call
		want int
	}{
		{call(0, api.OPush, 2, 9, 2), 2}, {call(0, api.OPush, 2, 9, 9), 9}, {call(0, api.OPush, 2, 9, 5), 5}, {call(0, api.OPush, 2, 9, 1), -1}, {call(0, api.OPush, 2, 9, 10), -1}, {call(0, api.OPush, 2, 9, -1), -1}, {call(0, api.OPush, 0, 99, 50), 50},
		{call(0, api.OPush, 0, 10, -5), 8}, {call(0, api.OPush, 0, 8, -5), 8}, {call(0, api.OPush, 0, 7, -5), -1}, {call(1, api.OPush, 0, 10, -5), 6}, {call(2, api.OPush, 0, 10, -5), 6}, {call(0, api.OPush, 0, 99, -5), 8},
		{call(0, api.OPush, 0, 9, 0), 0}, {call(2, api.OPush, 0, 99, -11), -1}, {call(1, api.OPush, 0, 99, -2), -1},
		{call(0, api.OPush, 0, 10, -10), 9}, {call(0, api.OPush, 0, 10, -11), -1}, {call(0, api.OPush, 0, 10, -12), -1}, {call(0, api.OPush, 0, 10, -13), -1}, {call(0, api.OPush, 0, 99, math.MinInt), -1}, {call(0, api.OPush, 0, 10, -2), -1},
	} {
		calls := []api.Call{x.c}
		got := point.Steps(events(), calls)
		want := x.c
		want.Point = x.want
		if len(got) != 1 || got[0] != want || calls[0] != x.c {
			t.Error(i, got)
		}
	}
	first := []api.Event{cas(0, 4, true), cas(1, 4, true)}
	if got := point.Steps(first, []api.Call{call(0, api.OPush, 0, 1, -2)}); got[0].Point != 1 {
		t.Error("an offer at step 0", got)
	}
	if len(point.Steps(nil, nil)) != 0 {
		t.Error("no calls")
	}
}

// P28.2
func TestOrder(t *testing.T) {
	of := func(kind, p int) api.Call { return call(0, kind, 0, 99, p) }
	for i, x := range []struct {
		l    []api.Call
		want []int
	}{
		{nil, nil},
		{[]api.Call{of(api.OPop, 5), of(api.OPush, 3), of(api.OPop, 4)}, []int{1, 2, 0}},
		{[]api.Call{of(api.OPop, 5), of(api.OPush, -1), of(api.OPop, -4), of(api.OPop, 0)}, []int{3, 0}},
		{[]api.Call{of(api.OPop, 5), of(api.OPush, 5)}, []int{1, 0}},
		{[]api.Call{of(api.ORecv, 5), of(api.OPop, 5), of(api.OGet, 5), of(api.OSend, 5), of(api.ODel, 5), of(api.OPut, 5), of(api.OPush, 5), of(api.OPop, 4)}, []int{7, 3, 5, 6, 0, 1, 2, 4}},
	} {
		if got := point.Order(x.l); !slices.Equal(got, x.want) {
			t.Error(i, got)
		}
	}
}

// P28.3
func TestExplain(t *testing.T) {
	push := func(n, p int) api.Call { return api.Call{Op: api.Op{Kind: api.OPush, A: n}, Is: true, Point: p} }
	pop := func(n, p int) api.Call { return api.Call{Op: api.Op{Kind: api.OPop}, Val: n, Is: true, Point: p} }
	from := api.Content{Kind: api.KStack, Vals: []int{9}}
	for i, x := range []struct {
		l    []api.Call
		want []int
		ok   bool
	}{
		{nil, []int{9}, true},
		{[]api.Call{pop(1, 5), push(1, 3), push(2, 7)}, []int{2, 9}, true},
		{[]api.Call{pop(1, 5), push(1, 5)}, []int{9}, true},
		{[]api.Call{pop(1, 2), push(1, 3)}, []int{1}, false},
		{[]api.Call{pop(8, 2), push(1, 3)}, []int{1}, false},
		{[]api.Call{{Op: api.Op{Kind: api.OPush, A: 3}, Point: 1}}, []int{3, 9}, false},
		{[]api.Call{push(1, 3), push(2, -1)}, []int{9}, false},
		{[]api.Call{push(1, 3), push(2, -7)}, []int{9}, false},
	} {
		got, ok := point.Explain(from, x.l)
		if ok != x.ok || got.Kind != api.KStack || !slices.Equal(got.Vals, x.want) || !slices.Equal(from.Vals, []int{9}) {
			t.Error(i, got, ok)
		}
	}
}

func TestDone(t *testing.T) {
	for i, x := range []struct {
		l    []api.Call
		want bool
	}{
		{nil, true}, {[]api.Call{call(0, api.OPush, 2, 9, 2), call(0, api.OPush, 2, 9, -5)}, true},
		{[]api.Call{call(0, api.OPush, 2, 9, 2), call(0, api.OPush, 2, 9, 10)}, false}, {[]api.Call{call(0, api.OPush, 2, 9, -1)}, false}, {[]api.Call{call(0, api.OPush, 2, 7, -5)}, false}, {[]api.Call{call(0, api.OPush, 9, 10, -5)}, false},
	} {
		if point.Done(events(), x.l) != x.want {
			t.Error(i)
		}
	}
}

// P28.4: the example.
func TestMet(t *testing.T) {
	l := []api.Event{other(1, 1), other(0, 1), other(1, 1), cas(0, 7, true), other(0, 7), cas(1, 7, true), other(0, 7)}
	calls := []api.Call{
		{Who: 1, Op: api.Op{Kind: api.OPop}, Val: 4, Is: true, First: 0, Last: 5, Point: 5},
		{Who: 0, Op: api.Op{Kind: api.OPush, A: 4}, Is: true, First: 1, Last: 6, Point: -5},
	}
	steps := point.Steps(l, calls)
	if steps[0].Point != 5 || steps[1].Point != 5 || !slices.Equal(point.Order(steps), []int{1, 0}) {
		t.Error(steps)
	}
	if c, ok := point.Explain(spec.New(api.KStack), steps); !ok || len(c.Vals) != 0 || !point.Done(l, calls) {
		t.Error(c, ok)
	}
}
