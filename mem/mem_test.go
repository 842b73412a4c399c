package mem_test

import (
	"math"
	"slices"
	"testing"

	"underwood/api"
	"underwood/mem"
)

func of(cells ...int) api.Mem { return api.Mem{Cells: cells} }

// P2.1
func TestRight(t *testing.T) {
	for _, x := range []struct {
		a    api.Access
		want bool
	}{
		{api.Access{}, false},
		{api.Access{Kind: api.ALoad}, true},
		{api.Access{Kind: api.ALoad, Cell: 9}, true},
		{api.Access{Kind: api.ALoad, Cell: -1}, false},
		{api.Access{Kind: api.ALoad, New: 1}, false},
		{api.Access{Kind: api.ALoad, Old: 1}, false},
		{api.Access{Kind: api.AStore, New: -3}, true},
		{api.Access{Kind: api.AStore, Old: 1}, false},
		{api.Access{Kind: api.ACas, Old: 1, New: 2}, true},
		{api.Access{Kind: api.ACas, Cell: -1}, false},
		{api.Access{Kind: api.AAdd, New: 2}, true},
		{api.Access{Kind: api.AAdd, Old: 2}, false},
		{api.Access{Kind: api.ASwap, New: 2}, true},
		{api.Access{Kind: api.ASwap, Old: -2}, false},
		{api.Access{Kind: api.ASwap + 1}, false},
		{api.Access{Kind: -1}, false},
	} {
		if got := mem.Right(x.a); got != x.want {
			t.Errorf("Right(%v) = %v", x.a, got)
		}
	}
}

// P2.2
func TestDo(t *testing.T) {
	for _, x := range []struct {
		a    api.Access
		cell int
		told api.Result
	}{
		{api.Access{Kind: api.ALoad, Cell: 1}, 5, api.Result{Val: 5, Ok: true}},
		{api.Access{Kind: api.AStore, Cell: 1, New: 9}, 9, api.Result{Val: 5, Ok: true}},
		{api.Access{Kind: api.ACas, Cell: 1, Old: 5, New: 7}, 7, api.Result{Val: 5, Ok: true}},
		{api.Access{Kind: api.ACas, Cell: 1, Old: 6, New: 7}, 5, api.Result{Val: 5}},
		{api.Access{Kind: api.AAdd, Cell: 1, New: 3}, 8, api.Result{Val: 5, Ok: true}},
		{api.Access{Kind: api.AAdd, Cell: 1, New: -6}, -1, api.Result{Val: 5, Ok: true}},
		{api.Access{Kind: api.ASwap, Cell: 1, New: 1}, 1, api.Result{Val: 5, Ok: true}},
	} {
		m := of(4, 5, 6)
		got, told, err := mem.Do(m, x.a)
		if err != api.OK || told != x.told || !slices.Equal(got.Cells, []int{4, x.cell, 6}) {
			t.Errorf("Do(%v) = %v %v %v", x.a, got, told, err)
		}
		if !slices.Equal(m.Cells, []int{4, 5, 6}) {
			t.Errorf("Do(%v) wrote into what it was handed", x.a)
		}
	}
	if got, told, _ := mem.Do(of(math.MaxInt), api.Access{Kind: api.AAdd, New: 1}); got.Cells[0] != math.MinInt || told.Val != math.MaxInt {
		t.Error("an addition goes round", got, told)
	}
}

func TestDoWrong(t *testing.T) {
	for _, x := range []struct {
		a    api.Access
		want api.Errno
	}{
		{api.Access{Kind: 0}, api.ErrArg},
		{api.Access{Kind: api.ALoad, Cell: 7, New: 1}, api.ErrArg},
		{api.Access{Kind: api.ALoad, Cell: 2}, api.ErrWild},
		{api.Access{Kind: api.AStore, Cell: -1}, api.ErrArg},
		{api.Access{Kind: api.ACas, Cell: 1 << 40}, api.ErrWild},
	} {
		got, told, err := mem.Do(of(4, 5), x.a)
		if err != x.want || told != (api.Result{}) || !mem.Same(got, of(4, 5)) {
			t.Errorf("Do(%v) = %v %v %v", x.a, got, told, err)
		}
	}
}

// P2.3
func TestAll(t *testing.T) {
	m := of(5, 0)
	l := []api.Access{
		{Kind: api.ACas, Old: 5, New: 7},
		{Kind: api.ACas, Old: 5, New: 7},
		{Kind: api.AAdd, New: 3},
		{Kind: api.ASwap, New: 1},
	}
	got, told, err := mem.All(m, l)
	want := []api.Result{{Val: 5, Ok: true}, {Val: 7}, {Val: 7, Ok: true}, {Val: 10, Ok: true}}
	if err != api.OK || !slices.Equal(told, want) || !mem.Same(got, of(1, 0)) || !mem.Same(m, of(5, 0)) {
		t.Error(got, told, err)
	}
	got, told, err = mem.All(m, append(l, api.Access{Kind: api.ALoad, Cell: 2}, api.Access{}))
	if err != api.ErrWild || len(told) != 0 || !mem.Same(got, m) {
		t.Error("the first error ends it", got, told, err)
	}
	got, told, err = mem.All(m, nil)
	if err != api.OK || len(told) != 0 || !mem.Same(got, m) {
		t.Error("no access turns nothing", got, told, err)
	}
}

func TestSame(t *testing.T) {
	if !mem.Same(of(), api.Mem{Cells: []int{}}) || !mem.Same(of(1, 2), of(1, 2)) {
		t.Error("the same are told as others")
	}
	if mem.Same(of(1), of(1, 0)) || mem.Same(of(1, 2), of(2, 1)) {
		t.Error("others are told as the same")
	}
}

// P2.4
func TestPlaces(t *testing.T) {
	adds := []api.Access{{Kind: api.AAdd, Cell: 1, New: 3}, {Kind: api.AAdd, Cell: 1, New: math.MaxInt}}
	a, _, _ := mem.All(of(1, 2), adds)
	b, _, _ := mem.All(of(1, 2), []api.Access{adds[1], adds[0]})
	if !mem.Same(a, b) || a.Cells[0] != 1 {
		t.Error("additions may change places", a, b)
	}
}
