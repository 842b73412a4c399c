package sp_test

import (
	"slices"
	"testing"

	"underwood/api"
	"underwood/sp"
)

func fork(a, b, c, d int) api.Split { return api.Split{Kind: api.SFork, A: a, B: b, C: c, D: d} }
func end(a, d int) api.Split        { return api.Split{Kind: api.SEnd, A: a, D: d} }
func join(a, d int) api.Split       { return api.Split{Kind: api.SJoin, A: a, D: d} }

// P12.1
func TestOf(t *testing.T) {
	for i, x := range []struct {
		l    []api.Split
		want [][2]int
	}{
		{nil, [][2]int{{0, 0}}},
		{[]api.Split{fork(0, 1, 2, 3)}, [][2]int{{0, 0}, {1, 2}, {2, 1}, {3, 3}}},
		{[]api.Split{fork(0, 1, 2, 3), end(1, 3), join(2, 3)}, [][2]int{{0, 0}, {1, 2}, {2, 1}, {3, 3}}},
		{[]api.Split{fork(0, 1, 2, 3), end(1, 3), fork(2, 4, 5, 3), end(4, 3), join(5, 3)}, [][2]int{{0, 0}, {1, 4}, {2, 1}, {5, 5}, {3, 3}, {4, 2}}},
		{[]api.Split{fork(0, 1, 2, 3), fork(1, 4, 5, 6), end(4, 6), join(5, 6), end(6, 3), join(2, 3), fork(3, 7, 8, 9)}, [][2]int{{0, 0}, {1, 2}, {5, 1}, {6, 6}, {2, 4}, {3, 3}, {4, 5}, {7, 8}, {8, 7}, {9, 9}}},
	} {
		if got, err := sp.Of(x.l); err != api.OK || !slices.Equal(got, x.want) {
			t.Error(i, got, err)
		}
	}
}

func TestOfWrong(t *testing.T) {
	for i, l := range [][]api.Split{
		{fork(1, 1, 2, 3)}, {fork(0, 2, 1, 3)}, {fork(0, 1, 2, 4)}, {fork(0, 1, 3, 2)}, {fork(0, 1, 2, 0)},
		{end(0, 0)}, {join(0, 0)}, {join(0, 1)}, {{Kind: 0}}, {{Kind: 4}},
		{fork(0, 1, 2, 3), end(2, 3)}, {fork(0, 1, 2, 3), end(1, 2)}, {fork(0, 1, 2, 3), join(2, 3)}, {fork(0, 1, 2, 3), join(1, 3)}, {fork(0, 1, 2, 3), join(1, 0)},
		{fork(0, 1, 2, 3), {Kind: api.SEnd, A: 1, B: 1, D: 3}}, {fork(0, 1, 2, 3), end(1, 3), {Kind: api.SJoin, A: 2, C: 1, D: 3}},
		{fork(0, 1, 2, 3), end(1, 3), end(2, 3)}, {fork(0, 1, 2, 3), end(1, 3), join(2, 4)}, {fork(0, 1, 2, 3), end(1, 3), join(2, 3), join(3, 3)},
		{fork(0, 1, 2, 3), end(1, 3), fork(2, 4, 5, 6)}, {fork(0, 1, 2, 3), end(1, 3), join(2, 3), fork(3, 4, 5, 3)},
		{fork(0, 1, 2, 3), fork(1, 4, 5, 6), end(4, 6), end(5, 3)},
	} {
		if got, err := sp.Of(l); err != api.ErrArg || len(got) != 0 {
			t.Error(i, got, err)
		}
	}
}

// P12.2
func TestAheadAndParallel(t *testing.T) {
	o, _ := sp.Of([]api.Split{fork(0, 1, 2, 3), end(1, 3), join(2, 3)})
	for a := -1; a <= 4; a++ {
		for b := -1; b <= 4; b++ {
			in := a >= 0 && a < 4 && b >= 0 && b < 4
			ahead := in && (a == 0 && b > 0 || b == 3 && a < 3)
			parallel := a == 1 && b == 2 || a == 2 && b == 1
			if sp.Ahead(o, a, b) != ahead || sp.Parallel(o, a, b) != parallel {
				t.Error(a, b, sp.Ahead(o, a, b), sp.Parallel(o, a, b))
			}
		}
	}
	// Below in both, not beside.
	if o := [][2]int{{0, 0}, {0, 1}, {1, 0}, {1, 1}}; sp.Ahead(o, 0, 1) || sp.Ahead(o, 0, 2) || !sp.Ahead(o, 0, 3) || !sp.Parallel(o, 0, 1) {
		t.Error("places that are the same")
	}
	if sp.Ahead(nil, 0, 0) || sp.Parallel(nil, 0, 0) {
		t.Error("strands that there are not")
	}
}

// grow makes splits that may be, as a number says.
func grow(seed, many int) []api.Split {
	type task struct{ strand, join int }
	tasks, named := []task{{}}, 1
	var l []api.Split
	for len(l) < many {
		seed = (seed*1103515245 + 12345) & (1<<31 - 1)
		on := &tasks[len(tasks)-1]
		switch pick := (seed >> 16) % 5; {
		case pick < 2 || on.join == 0 && len(tasks) == 1:
			s := fork(on.strand, named, named+1, on.join)
			named += 2
			if on.join == 0 {
				s.D = named
				named++
			}
			l = append(l, s)
			*on = task{s.C, s.D}
			tasks = append(tasks, task{strand: s.B})
		case on.join != 0:
			l = append(l, join(on.strand, on.join))
			*on = task{strand: on.join}
		default:
			l = append(l, end(on.strand, tasks[len(tasks)-2].join))
			tasks = tasks[:len(tasks)-1]
		}
	}
	return l
}

// P12.3
func TestWhatFollows(t *testing.T) {
	for seed := range 30 {
		l := grow(seed, 40)
		o, err := sp.Of(l)
		if err != api.OK {
			t.Fatal(seed, err)
		}
		leads := make([][]bool, len(o))
		for i := range leads {
			leads[i] = make([]bool, len(o))
		}
		begun := map[int]bool{0: true}
		for _, s := range l {
			if s.Kind == api.SFork {
				leads[s.A][s.B], leads[s.A][s.C] = true, true
				begun[s.B], begun[s.C] = true, true
			} else {
				leads[s.A][s.D] = true
				begun[s.D] = begun[s.D] || s.Kind == api.SJoin
			}
		}
		for k := range leads {
			for i := range leads {
				for j := range leads {
					leads[i][j] = leads[i][j] || leads[i][k] && leads[k][j]
				}
			}
		}
		for a := range begun {
			for b := range begun {
				if !begun[a] || !begun[b] {
					continue
				}
				if sp.Ahead(o, a, b) != leads[a][b] || sp.Parallel(o, a, b) != (a != b && !leads[a][b] && !leads[b][a]) {
					t.Error(seed, a, b)
				}
			}
		}
		half, _ := sp.Of(l[:20])
		for a := range half {
			for b := range half {
				if sp.Ahead(half, a, b) != sp.Ahead(o, a, b) {
					t.Error("more splits turn", seed, a, b)
				}
			}
		}
	}
}

// Many strands, one block behind the other.
func TestMany(t *testing.T) {
	var l []api.Split
	at := 0
	for named := 1; named < 990; named += 3 {
		l = append(l, fork(at, named, named+1, named+2), end(named, named+2), join(named+1, named+2))
		at = named + 2
	}
	o, err := sp.Of(l)
	if err != api.OK || len(o) != 991 {
		t.Fatal(len(o), err)
	}
	for a := 1; a < 990; a += 3 {
		if !sp.Parallel(o, a, a+1) || !sp.Ahead(o, a, a+2) || !sp.Ahead(o, a+1, a+2) || !sp.Ahead(o, a-1, a) {
			t.Fatal(a)
		}
	}
}
