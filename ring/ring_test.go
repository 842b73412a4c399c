package ring_test

import (
	"math"
	"slices"
	"testing"

	"underwood/api"
	"underwood/lab"
	"underwood/layout"
	"underwood/ring"
)

// Two seats, rings of 4, 8 and 16 cells.
func three() api.Layout {
	return lab.Of(api.Conf{Seats: 2, Buckets: 1, Slots: 1, Tasks: 9})
}

// P17.1
func TestSize(t *testing.T) {
	for r, want := range map[int]int{0: 4, 1: 8, 2: 16, 15: 4 << 15, 16: 0, -1: 0, 64: 0, 1 << 40: 0} {
		if ring.Size(r) != want {
			t.Error(r, ring.Size(r))
		}
	}
}

func TestPlace(t *testing.T) {
	l := three()
	for _, x := range []struct{ seat, r, i, want int }{
		{0, 0, 0, l.Ring}, {0, 0, 5, l.Ring + 1}, {0, 0, 3, l.Ring + 3}, {0, 1, 0, l.Ring + 4}, {0, 1, 9, l.Ring + 5}, {0, 2, 15, l.Ring + 27}, {0, 2, 16, l.Ring + 12},
		{1, 0, 0, l.Ring + 28}, {1, 2, 16*1000 + 3, l.Ring + 28 + 12 + 3}, {0, 0, math.MaxInt, l.Ring + 3},
		{0, 3, 0, -1}, {0, -1, 0, -1}, {2, 0, 0, -1}, {-1, 0, 0, -1}, {0, 0, -1, -1}, {0, 0, math.MinInt, -1},
	} {
		if got := ring.Place(l, x.seat, x.r, x.i); got != x.want {
			t.Error(x, got)
		}
	}
}

// P17.2
func TestMoves(t *testing.T) {
	l := three()
	p := func(r, i int) int { return ring.Place(l, 1, r, i) }
	for i, x := range []struct {
		seat, r, top, bottom int
		want                 [][2]int
	}{
		{1, 0, 3, 7, [][2]int{{p(0, 3), p(1, 3)}, {p(0, 4), p(1, 4)}, {p(0, 5), p(1, 5)}, {p(0, 6), p(1, 6)}}},
		{1, 1, 20, 22, [][2]int{{p(1, 20), p(2, 20)}, {p(1, 21), p(2, 21)}}},
		{1, 0, 5, 5, nil}, {1, 0, 3, 8, nil}, {1, 0, 5, 4, nil}, {1, 0, -1, 1, nil}, {1, 2, 0, 1, nil}, {1, -1, 0, 1, nil}, {2, 0, 0, 1, nil}, {1, 0, -4, math.MaxInt, nil}, {1, 0, 0, math.MaxInt, nil},
	} {
		if got := ring.Moves(l, x.seat, x.r, x.top, x.bottom); !slices.Equal(got, x.want) {
			t.Error(i, got)
		}
	}
}

// P17.3
func TestRow(t *testing.T) {
	l := three()
	m := lab.Memory(l)
	set := func(top, bottom, r int) {
		for i, n := range []int{top, bottom, r} {
			m.Cells[layout.Deque(l, 1, i)] = n
		}
	}
	for i := range 8 {
		m.Cells[ring.Place(l, 1, 1, i)] = 100 + i
		m.Cells[ring.Place(l, 1, 0, i)] = 200 + i%4
	}
	for i, x := range []struct {
		top, bottom, r int
		want           []int
	}{
		{6, 9, 1, []int{106, 107, 100}}, {2, 6, 0, []int{202, 203, 200, 201}}, {0, 8, 1, []int{100, 101, 102, 103, 104, 105, 106, 107}}, {0, 2, 2, []int{0, 0}},
		{3, 3, 0, nil}, {0, 9, 1, nil}, {1, 0, 0, nil}, {-1, 0, 0, nil}, {0, 1, 3, nil}, {0, 1, -1, nil},
	} {
		set(x.top, x.bottom, x.r)
		if got := ring.Row(l, m, 1); !slices.Equal(got, x.want) {
			t.Error(i, got)
		}
	}
	set(0, 2, 1)
	if ring.Row(l, m, 2) != nil || ring.Row(l, m, -1) != nil || ring.Row(l, m, 0) != nil {
		t.Error("another seat's")
	}
	if got := ring.Row(l, api.Mem{Cells: m.Cells[:ring.Place(l, 1, 1, 1)]}, 1); len(got) != 0 {
		t.Error("a cell that is not there", got)
	}
	if got := ring.Row(l, api.Mem{Cells: m.Cells[:layout.Deque(l, 1, 2)]}, 1); len(got) != 0 {
		t.Error("a cell of the deque that is not there", got)
	}
}

// P17.4
func TestWhatFollows(t *testing.T) {
	l := three()
	seen := map[int]bool{}
	for seat := range 2 {
		for r := range layout.Rings(l) {
			for i := range ring.Size(r) {
				cell := ring.Place(l, seat, r, i)
				if seen[cell] || ring.Place(l, seat, r, i+ring.Size(r)) != cell {
					t.Error(seat, r, i)
				}
				seen[cell] = true
			}
		}
	}
	if len(seen) != l.Task-l.Ring || ring.Size(layout.Rings(l)-1) < l.Conf.Tasks {
		t.Error(len(seen))
	}
}
