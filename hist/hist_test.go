package hist_test

import (
	"slices"
	"testing"

	"underwood/api"
	"underwood/hist"
)

func call(who, kind, obj, first, last, point int) api.Call {
	return api.Call{Who: who, Op: api.Op{Kind: kind, Obj: obj}, First: first, Last: last, Point: point}
}

func history() []api.Call {
	return []api.Call{
		call(0, api.OGet, 0, 0, 3, 2), call(1, api.OPush, 0, 1, 2, -1), call(1, api.OPut, 1, 4, 4, 4), call(0, api.ODel, 0, 5, 9, 5), call(2, api.OSend, 0, 6, 7, 7), call(7, api.ORecv, 7, 8, 8, 8),
	}
}

// P26.1
func TestRight(t *testing.T) {
	if !hist.Right(nil) || !hist.Right(history()) {
		t.Error("a history that is right")
	}
	for i, turn := range []func(h []api.Call){
		func(h []api.Call) { h[0].Who = -1 }, func(h []api.Call) { h[5].Who = 8 },
		func(h []api.Call) { h[0].Op.Kind = 0 }, func(h []api.Call) { h[0].Op.Kind = api.OPushD },
		func(h []api.Call) { h[0].Op.Obj = -1 }, func(h []api.Call) { h[0].Op.Obj = api.MaxObj },
		func(h []api.Call) { h[0].First = -1 }, func(h []api.Call) { h[4].Last = 5 },
		func(h []api.Call) { h[0].Point = 4 }, func(h []api.Call) { h[2].Point = 3 }, func(h []api.Call) { h[0].Point = -2 },
		func(h []api.Call) { h[1].First, h[1].Point = 0, -1 },
		func(h []api.Call) { h[2].First = 0 },
		func(h []api.Call) { h[0].Last = 5 }, func(h []api.Call) { h[1].Last = 4 },
		func(h []api.Call) { h[4].Who = 0 },
	} {
		h := history()
		turn(h)
		if hist.Right(h) {
			t.Error(i, h)
		}
	}
	for i, turn := range []func(h []api.Call){
		func(h []api.Call) { h[0].Point = 0 }, func(h []api.Call) { h[0].Point = 3 }, func(h []api.Call) { h[1].Last = 3 }, func(h []api.Call) { h[4].Last = 100 }, func(h []api.Call) { h[0].Val, h[0].Op.A = -9, -9 },
	} {
		h := history()
		turn(h)
		if !hist.Right(h) {
			t.Error(i, h)
		}
	}
}

func TestAhead(t *testing.T) {
	a, b, c := call(0, 1, 0, 0, 3, -1), call(1, 1, 0, 1, 2, -1), call(2, 1, 0, 4, 4, -1)
	if !hist.Ahead(a, c) || !hist.Ahead(b, c) || hist.Ahead(a, b) || hist.Ahead(b, a) || hist.Ahead(c, a) || hist.Ahead(c, c) {
		t.Error("the example")
	}
	if hist.Ahead(call(0, 1, 0, 0, 3, -1), call(1, 1, 0, 3, 5, -1)) {
		t.Error("calls that touch")
	}
}

// P26.2
func TestParts(t *testing.T) {
	h := history()
	pick := func(places ...int) []api.Call {
		var l []api.Call
		for _, i := range places {
			l = append(l, h[i])
		}
		return l
	}
	for i, x := range []struct{ got, want []api.Call }{
		{hist.Of(h, api.KMap, 0), pick(0, 3)}, {hist.Of(h, api.KMap, 1), pick(2)}, {hist.Of(h, api.KStack, 0), pick(1)}, {hist.Of(h, api.KChan, 7), pick(5)}, {hist.Of(h, api.KMap, 2), nil}, {hist.Of(h, api.KCell, 0), nil},
		{hist.Seat(h, 0), pick(0, 3)}, {hist.Seat(h, 1), pick(1, 2)}, {hist.Seat(h, 3), nil}, {hist.Seat(h, -1), nil},
		{hist.Upto(h, 3), pick(0, 1)}, {hist.Upto(h, 2), pick(1)}, {hist.Upto(h, 8), pick(0, 1, 2, 4, 5)}, {hist.Upto(h, -1), nil}, {hist.Upto(h, 99), h},
		{hist.Of([]api.Call{{Op: api.Op{Kind: 99, Obj: -4}}}, api.KCell, -4), []api.Call{{Op: api.Op{Kind: 99, Obj: -4}}}},
	} {
		if !slices.Equal(x.got, x.want) {
			t.Error(i, x.got)
		}
		if !slices.Equal(x.want, h) && i < 15 && !hist.Right(x.got) {
			t.Error(i, "a part of what is right")
		}
	}
}
