package layout_test

import (
	"reflect"
	"testing"

	"underwood/api"
	"underwood/layout"
)

func small() api.Conf { return api.Conf{Seats: 1, Buckets: 1, Slots: 1, Tasks: 1} }

func large() api.Conf {
	return api.Conf{Seats: 3, Nodes: 7, Buckets: 4, Slots: 2, Tasks: 9, Cells: 5, Maps: 2, Stacks: 3, Chans: 4}
}

func of(t *testing.T, c api.Conf) api.Layout {
	t.Helper()
	l, err := layout.Of(c)
	if err != api.OK || !layout.Right(l) {
		t.Fatal(c, l, err)
	}
	return l
}

// P14.1
func TestOf(t *testing.T) {
	want := api.Layout{Conf: small(), Count: 1, Era: 2, Free: 3, Alive: 4, Owner: 5, Resv: 6, Deque: 9, Ring: 12, Task: 16, Cell: 20, Map: 20, Stack: 20, Chan: 20, Node: 20, Size: 20}
	if l := of(t, small()); l != want {
		t.Error(l)
	}
	want = api.Layout{Conf: large(), Count: 1, Era: 2, Free: 3, Alive: 4, Owner: 7, Resv: 10, Deque: 19, Ring: 28, Task: 28 + 3*28, Cell: 112 + 36, Map: 153, Stack: 165, Chan: 174, Node: 182, Size: 182 + 56}
	if l := of(t, large()); l != want {
		t.Error(l)
	}
	wrong := want
	wrong.Size++
	if layout.Right(wrong) || layout.Right(api.Layout{}) {
		t.Error("layouts that are not right")
	}
	wrong = want
	wrong.Done = 1
	if layout.Right(wrong) {
		t.Error("a layout that is not right")
	}
}

func TestMayBe(t *testing.T) {
	for i, x := range []struct {
		ok   bool
		turn func(c *api.Conf)
	}{
		{true, func(c *api.Conf) { c.Seats = 8 }}, {false, func(c *api.Conf) { c.Seats = 9 }}, {false, func(c *api.Conf) { c.Seats = 0 }},
		{true, func(c *api.Conf) { c.Buckets = 64 }}, {false, func(c *api.Conf) { c.Buckets = 128 }}, {false, func(c *api.Conf) { c.Buckets = 3 }}, {false, func(c *api.Conf) { c.Buckets = 0 }}, {false, func(c *api.Conf) { c.Buckets = -4 }},
		{true, func(c *api.Conf) { c.Slots = 8 }}, {false, func(c *api.Conf) { c.Slots = 9 }}, {false, func(c *api.Conf) { c.Slots = 0 }},
		{true, func(c *api.Conf) { c.Tasks = 64 }}, {false, func(c *api.Conf) { c.Tasks = 65 }}, {false, func(c *api.Conf) { c.Tasks = 0 }},
		{true, func(c *api.Conf) { c.Cells = 16 }}, {false, func(c *api.Conf) { c.Cells = 17 }}, {false, func(c *api.Conf) { c.Cells = -1 }},
		{true, func(c *api.Conf) { c.Maps, c.Nodes = 8, 12 }}, {false, func(c *api.Conf) { c.Maps, c.Nodes = 9, 20 }}, {false, func(c *api.Conf) { c.Maps = -1 }},
		{true, func(c *api.Conf) { c.Stacks = 8 }}, {false, func(c *api.Conf) { c.Stacks = 9 }}, {false, func(c *api.Conf) { c.Stacks = -1 }},
		{true, func(c *api.Conf) { c.Chans, c.Nodes = 8, 10 }}, {false, func(c *api.Conf) { c.Chans, c.Nodes = 9, 20 }}, {false, func(c *api.Conf) { c.Chans = -1 }},
		{true, func(c *api.Conf) { c.Nodes = 6 }}, {false, func(c *api.Conf) { c.Nodes = 5 }}, {true, func(c *api.Conf) { c.Nodes = 1000 }}, {false, func(c *api.Conf) { c.Nodes = 1001 }},
	} {
		c := large()
		x.turn(&c)
		l, err := layout.Of(c)
		if (err == api.OK) != x.ok || !x.ok && (err != api.ErrArg || l != api.Layout{}) {
			t.Error(i, l, err)
		}
	}
}

func TestRings(t *testing.T) {
	for tasks, want := range map[int]int{1: 1, 4: 1, 5: 2, 8: 2, 9: 3, 16: 3, 17: 4, 32: 4, 33: 5, 64: 5} {
		c := small()
		c.Tasks = tasks
		if got := layout.Rings(of(t, c)); got != want {
			t.Error(tasks, got)
		}
	}
}

// P14.2, P14.4: each cell is a place of something, once; what there isn't is -1.
func TestPlaces(t *testing.T) {
	for _, c := range []api.Conf{small(), large()} {
		l := of(t, c)
		at := 0
		next := func(what string, cell int) {
			if cell != at {
				t.Errorf("%s: cell %d, want %d", what, cell, at)
			}
			at = cell + 1
		}
		for _, cell := range []int{l.Done, l.Count, l.Era, l.Free} {
			next("single", cell)
		}
		each := func(what string, low, many, inner int, of func(k, i int) int) {
			for k := low; k < low+many; k++ {
				for i := range inner {
					next(what, of(k, i))
				}
			}
			for _, x := range [][2]int{{low - 1, 0}, {low + many, 0}, {-1, 0}, {low, -1}, {low, inner}, {1 << 40, 0}, {low, 1 << 40}} {
				if cell := of(x[0], x[1]); cell != -1 {
					t.Errorf("%s %v: cell %d", what, x, cell)
				}
			}
		}
		only := func(of func(l api.Layout, k int) int) func(k, i int) int {
			return func(k, i int) int {
				if i != 0 {
					return -1
				}
				return of(l, k)
			}
		}
		inner := func(of func(l api.Layout, k, i int) int) func(k, i int) int {
			return func(k, i int) int { return of(l, k, i) }
		}
		each("alive", 0, c.Seats, 1, only(layout.Alive))
		each("owner", 0, c.Seats, 1, only(layout.Owner))
		each("resv", 0, c.Seats, 3, inner(layout.Resv))
		each("deque", 0, c.Seats, 3, inner(layout.Deque))
		for seat := range c.Seats {
			for r := range layout.Rings(l) {
				next("ring", layout.Ring(l, seat, r))
				at += 4<<r - 1
			}
			if layout.Ring(l, seat, layout.Rings(l)) != -1 || layout.Ring(l, seat, -1) != -1 {
				t.Error("a ring that there is not")
			}
		}
		if layout.Ring(l, -1, 0) != -1 || layout.Ring(l, c.Seats, 0) != -1 {
			t.Error("a ring of no seat")
		}
		each("task", 1, c.Tasks, 4, inner(layout.Task))
		each("cell", 0, c.Cells, 1, only(layout.Cell))
		for m := range c.Maps {
			next("map", layout.Map(l, m, 0))
			next("map", layout.Map(l, m, 1))
			for b := range c.Buckets {
				next("bucket", layout.Bucket(l, m, b))
			}
			if layout.Map(l, m, 2) != -1 || layout.Map(l, m, -1) != -1 || layout.Bucket(l, m, -1) != -1 || layout.Bucket(l, m, c.Buckets) != -1 {
				t.Error("a cell of a map that there is not")
			}
		}
		if layout.Map(l, c.Maps, 0) != -1 || layout.Bucket(l, c.Maps, 0) != -1 || layout.Map(l, -1, 0) != -1 || layout.Bucket(l, -1, 0) != -1 {
			t.Error("a map that there is not")
		}
		each("stack", 0, c.Stacks, 1+c.Slots, func(s, i int) int {
			if i == 0 {
				return layout.Top(l, s)
			}
			return layout.Slot(l, s, i-1)
		})
		each("chan", 0, c.Chans, 2, func(k, i int) int {
			switch i {
			case 0:
				return layout.Head(l, k)
			case 1:
				return layout.Tail(l, k)
			}
			return -1
		})
		each("node", 1, c.Nodes, 8, inner(layout.Node))
		if at != l.Size {
			t.Error("size", at, l.Size)
		}
	}
}

// P14.3
func TestFor(t *testing.T) {
	uses := func(thing, kind, n int) []api.Use {
		l := make([]api.Use, n)
		for i := range l {
			l[i] = api.Use{Thing: thing, Op: api.Op{Kind: kind}}
		}
		return l
	}
	join := func(ls ...[]api.Use) (l []api.Use) {
		for _, x := range ls {
			l = append(l, x...)
		}
		return l
	}
	code := api.Code{Cells: []int{1, 2}, Maps: 2, Stacks: 1, Chans: 3}
	for i, x := range []struct {
		c     api.Code
		e     api.Elided
		seats int
		want  api.Conf
	}{
		{api.Code{}, api.Elided{}, 1, api.Conf{Seats: 1, Nodes: 12, Buckets: 1, Slots: 1, Tasks: 1}},
		{api.Code{}, api.Elided{Uses: uses(api.KMap, api.OPut, 9)}, 1, api.Conf{Seats: 1, Nodes: 21, Buckets: 1, Slots: 1, Tasks: 1}},
		{api.Code{Stacks: 1}, api.Elided{Tasks: 64, Uses: uses(api.KStack, api.OPush, 9)}, 8, api.Conf{Seats: 8, Nodes: 77, Buckets: 1, Slots: 4, Tasks: 64, Stacks: 1}},
		{code, api.Elided{Tasks: 3, Uses: join(uses(api.KMap, api.OPut, 5), uses(api.KMap, api.OGet, 50), uses(api.KMap, api.ODel, 50), uses(api.KStack, api.OPush, 2), uses(api.KStack, api.OPop, 9), uses(api.KChan, api.OSend, 3), uses(api.KChan, api.ORecv, 9), uses(api.KCell, 1, 9), uses(api.KCell, 0, 9))}, 3,
			api.Conf{Seats: 3, Nodes: 4 + 4*2 + 3 + 10 + 24, Buckets: 4, Slots: 2, Tasks: 3, Cells: 2, Maps: 2, Stacks: 1, Chans: 3}},
	} {
		got, err := layout.For(x.c, x.e, x.seats)
		if err != api.OK || got != x.want {
			t.Error(i, got, err)
		}
		of(t, got)
	}
	for puts, want := range map[int]int{0: 1, 1: 1, 2: 1, 3: 2, 4: 2, 5: 4, 8: 4, 9: 8, 128: 64, 129: 64, 500: 64} {
		got, err := layout.For(api.Code{Maps: 1}, api.Elided{Uses: uses(api.KMap, api.OPut, puts)}, 2)
		if err != api.OK || got.Buckets != want {
			t.Error(puts, got, err)
		}
	}
}

func TestForWrong(t *testing.T) {
	uses := make([]api.Use, 989)
	for i := range uses {
		uses[i] = api.Use{Thing: api.KStack, Op: api.Op{Kind: api.OPush}}
	}
	for i, x := range []struct {
		c     api.Code
		e     api.Elided
		seats int
		want  api.Errno
	}{
		{api.Code{}, api.Elided{}, 0, api.ErrArg}, {api.Code{}, api.Elided{}, 9, api.ErrArg}, {api.Code{}, api.Elided{}, -3, api.ErrArg},
		{api.Code{Maps: 9}, api.Elided{}, 1, api.ErrArg}, {api.Code{Cells: make([]int, 17)}, api.Elided{}, 1, api.ErrArg}, {api.Code{}, api.Elided{Tasks: 65}, 1, api.ErrArg},
		{api.Code{Stacks: 9}, api.Elided{Uses: uses}, 1, api.ErrArg}, {api.Code{Chans: -1}, api.Elided{}, 1, api.ErrArg},
		{api.Code{Stacks: 1}, api.Elided{Uses: uses}, 1, api.ErrFull},
	} {
		if got, err := layout.For(x.c, x.e, x.seats); err != x.want || !reflect.DeepEqual(got, api.Conf{}) {
			t.Error(i, got, err)
		}
	}
	if got, err := layout.For(api.Code{Stacks: 1}, api.Elided{Uses: uses[:988]}, 1); err != api.OK || got.Nodes != api.MaxNode {
		t.Error(got, err)
	}
}
