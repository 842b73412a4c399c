package pace_test

import (
	"reflect"
	"testing"

	"underwood/api"
	"underwood/pace"
)

// inner loads the cell A as often as B says, and tells all, added; its point is the first load.
func inner(_ api.Layout, _ int, gone [][2]int, op api.Op, log []api.Result) (api.Access, api.Out, bool) {
	return pace.Run(log, func(w *pace.Walk) api.Out {
		out := api.Out{Is: true, Gone: gone}
		if op.B == 0 {
			out.Point = -1
		}
		for range op.B {
			out.Val += w.Load(op.A)
		}
		return out
	})
}

// outer does all that there is, with two pieces.
func outer(l api.Layout, me int, gone [][2]int, _ api.Op, log []api.Result) (api.Access, api.Out, bool) {
	return pace.Run(log, func(w *pace.Walk) api.Out {
		w.Store(1, 10)
		a := w.Call(inner, l, me, gone, api.Op{A: 2, B: 3})
		b := w.Call(inner, l, me, gone, api.Op{A: 4})
		went := w.Cas(3, 1, 2)
		at := w.At(inner, l, me, gone, api.Op{A: 2, B: 3}, 1, 2)
		return api.Out{Val: a.Val*100 + w.Add(5, 7) + at.Cell, Is: went, Point: a.Point*10 + b.Point + w.Place()}
	})
}

func TestRun(t *testing.T) {
	want := []api.Access{
		{Kind: api.AStore, Cell: 1, New: 10}, {Kind: api.ALoad, Cell: 2}, {Kind: api.ALoad, Cell: 2}, {Kind: api.ALoad, Cell: 2},
		{Kind: api.ACas, Cell: 3, Old: 1, New: 2}, {Kind: api.AAdd, Cell: 5, New: 7},
	}
	log := []api.Result{{Val: 9, Ok: true}, {Val: 1, Ok: true}, {Val: 2, Ok: true}, {Val: 3, Ok: true}, {Val: 1, Ok: true}, {Val: 50, Ok: true}}
	for n, a := range want {
		got, out, done := outer(api.Layout{}, 0, nil, api.Op{}, log[:n])
		if done || got != a || !reflect.DeepEqual(out, api.Out{}) {
			t.Error(n, got, out, done)
		}
	}
	for _, more := range [][]api.Result{nil, {{Val: 77}}, {{}, {}, {}}} {
		got, out, done := outer(api.Layout{}, 0, nil, api.Op{}, append(log[:6:6], more...))
		if !done || got != (api.Access{}) || out.Val != 600+50+2 || !out.Is || out.Point != 10-1+5 {
			t.Error(got, out, done)
		}
	}
}

func TestOtherPanics(t *testing.T) {
	defer func() {
		if recover() == nil {
			t.Error("a fault of the program is hidden")
		}
	}()
	pace.Run(nil, func(*pace.Walk) api.Out { panic("fault") })
}
