package split_test

import (
	"reflect"
	"slices"
	"testing"

	"underwood/api"
	"underwood/arena"
	"underwood/lab"
	"underwood/layout"
	"underwood/list"
	"underwood/spec"
	"underwood/split"
	"underwood/word"
)

// laid is two maps of four buckets at most; the map m has the node m + 1.
func laid(nodes int) (api.Layout, api.Mem) {
	l := lab.Of(api.Conf{Seats: 3, Nodes: nodes, Buckets: 4, Slots: 1, Tasks: 1, Maps: 2})
	m := lab.Memory(l, slices.Concat(split.Init(l, 0, 1), split.Init(l, 1, 2), arena.Init(l, 3))...)
	m.Cells[l.Era] = 5
	return l, m
}

func op(kind, m, a, b int) api.Op { return api.Op{Kind: kind, Obj: m, A: a, B: b} }

// P20.1
func TestParent(t *testing.T) {
	for b, want := range map[int]int{6: 2, 0: 0, 1: 0, 2: 0, 3: 1, 4: 0, 5: 1, 7: 3, 63: 31, 32: 0, -1: 0, -8: 0, 1<<62 + 5: 5} {
		if got := split.Parent(b); got != want {
			t.Error(b, got)
		}
	}
}

func TestInit(t *testing.T) {
	l, _ := laid(6)
	store := func(cell, n int) api.Access { return api.Access{Kind: api.AStore, Cell: cell, New: n} }
	n := func(i int) int { return layout.Node(l, 5, i) }
	want := []api.Access{store(n(0), 0), store(n(1), 0), store(n(2), 0), store(n(6), 1), store(layout.Map(l, 1, 0), 1), store(layout.Map(l, 1, 1), 0), store(layout.Bucket(l, 1, 0), 5)}
	if got := split.Init(l, 1, 5); !slices.Equal(got, want) {
		t.Error(got)
	}
}

// P20.2
func TestContent(t *testing.T) {
	l, m := laid(12)
	at := layout.Node(l, 2, 0)
	put := func(n, order, value int) {
		m.Cells[at] = n
		m.Cells[layout.Node(l, n, 1)], m.Cells[layout.Node(l, n, 2)] = order, value
		at = layout.Node(l, n, 0)
	}
	empty := api.Content{Kind: api.KMap}
	if got := split.Content(l, m, 1); !reflect.DeepEqual(got, empty) {
		t.Error(got)
	}
	put(3, word.Real(4), 40)
	put(4, word.Dummy(2), 7)
	put(5, word.Real(2), 20)
	put(6, word.Real(1), 10)
	put(7, word.Real(1), 11)
	put(8, word.Real(3), 30)
	put(9, word.Real(5), 50)
	m.Cells[at] = 1 << 16 // the last one is out
	want := api.Content{Kind: api.KMap, Keys: []int{1, 1, 2, 3, 4}, Vals: []int{10, 11, 20, 30, 40}}
	if got := split.Content(l, m, 1); !reflect.DeepEqual(got, want) {
		t.Error(got)
	}
	for _, k := range []int{-1, 2} {
		if got := split.Content(l, m, k); !reflect.DeepEqual(got, empty) {
			t.Error(k, got)
		}
	}
	if got := split.Content(l, api.Mem{Cells: m.Cells[:layout.Bucket(l, 1, 0)]}, 1); !reflect.DeepEqual(got, empty) {
		t.Error(got)
	}
	cut := api.Mem{Cells: m.Cells[:layout.Node(l, 6, 1)]}
	if got := split.Content(l, cut, 1); !reflect.DeepEqual(got, api.Content{Kind: api.KMap, Keys: []int{2, 4}, Vals: []int{20, 40}}) {
		t.Error(got)
	}
}

// What a put of the key 5 does in the map 0, of one bucket, when nothing is there.
const (
	comeTo0 = "load map0.0\n load map0.2\n"
	guard   = "load node1.0\n load era\n store resv0.0 5\n load node1.0\n load era\n"
	again   = "load node1.0\n load era\n"
	take3   = "load free\n load node3.7\n cas free 3 131076\n load era\n store node3.6 5\n"
	clear1  = "store resv0.0 0\n"
)

// P20.3: one bucket.
func TestOneBucket(t *testing.T) {
	l, m := laid(12)
	gone := [][2]int{{12, 4}}
	// Real(5) is 2 * Rev(5) + 1 = 81921.
	did, on, out := lab.Alone(l, m, split.Next, 0, gone, op(api.OPut, 0, 5, 9), nil)
	lab.Check(t, did, comeTo0+guard+take3+"store node3.1 81921\n store node3.2 9\n store node3.0 0\n cas node1.0 0 3\n"+clear1+"add map0.1 1\n", out, api.Out{Is: true, Point: 15, Gone: gone})
	here := guard + "load node3.0\n load era\n store resv0.1 5\n load node3.0\n load era\n load node1.0\n load node3.1\n"
	clear2 := clear1 + "store resv0.1 0\n"
	did, _, out = lab.Alone(l, on, split.Next, 0, nil, op(api.OPut, 0, 5, 8), nil)
	lab.Check(t, did, comeTo0+here+clear2, out, api.Out{Point: 10})
	did, _, out = lab.Alone(l, on, split.Next, 0, nil, op(api.OGet, 0, 5, 0), nil)
	lab.Check(t, did, comeTo0+here+"load node3.2\n"+clear2, out, api.Out{Val: 9, Is: true, Point: 10})
	did, on, out = lab.Alone(l, on, split.Next, 0, nil, op(api.ODel, 0, 5, 0), nil)
	lab.Check(t, did, comeTo0+here+"cas node3.0 0 65536\n cas node1.0 3 0\n"+clear2+"load era\n add era 1\n add map0.1 -1\n", out, api.Out{Is: true, Point: 14, Gone: [][2]int{{3, 5}}})
	did, _, out = lab.Alone(l, on, split.Next, 0, nil, op(api.ODel, 0, 5, 0), nil)
	lab.Check(t, did, "load map0.0\n load map0.2\n load node1.0\n load era\n store resv0.0 6\n load node1.0\n load era\n"+clear1, out, api.Out{Point: 5})
}

// P20.3: the table grows, and a bucket is made.
func TestGrows(t *testing.T) {
	l, m := laid(30)
	last := func(m api.Mem, k int) []string {
		did, _, _ := lab.Alone(l, m, split.Next, 0, nil, op(api.OPut, 0, k, k), nil)
		return did[len(did)-2:]
	}
	put := func(m api.Mem, k int) api.Mem {
		_, m, out := lab.Alone(l, m, split.Next, 0, nil, op(api.OPut, 0, k, k), nil)
		if !out.Is {
			t.Error(k, out)
		}
		return m
	}
	m = put(put(m, 4), 8)
	if m.Cells[layout.Map(l, 0, 0)] != 1 {
		t.Error("grown too soon")
	}
	if did := last(m, 1); did[0] != "add map0.1 1" || did[1] != "cas map0.0 1 2" {
		t.Error(did)
	}
	m = put(m, 12)
	if m.Cells[layout.Map(l, 0, 0)] != 2 || m.Cells[layout.Map(l, 0, 1)] != 3 {
		t.Error("not grown")
	}
	// The bucket 1 is made by the first key that is its own: Dummy(1) is 65536.
	did, on, out := lab.Alone(l, m, split.Next, 0, nil, op(api.OGet, 0, 1, 0), nil)
	made := lab.Did(did[2:])
	if did[0] != "load map0.0" || did[1] != "load map0.3" || did[2] != "load map0.2" || !slices.Contains(did, "store node6.1 65536") || !slices.Contains(did, "store node6.2 0") || !slices.Contains(did, "cas map0.3 0 6") || out.Is || on.Cells[layout.Bucket(l, 0, 1)] != 6 {
		t.Error(made, out)
	}
	if did, _, _ := lab.Alone(l, on, split.Next, 0, nil, op(api.OGet, 0, 3, 0), nil); did[1] != "load map0.3" || did[2] != "load node6.0" {
		t.Error("a bucket that is made", did)
	}
	for k := 20; k < 30; k++ {
		_, on, _ = lab.Alone(l, on, split.Next, 0, nil, op(api.OPut, 0, k, 0), nil)
		if k == 20 {
			_, on, _ = lab.Alone(l, on, split.Next, 0, nil, op(api.ODel, 0, k, 0), nil)
		}
	}
	if on.Cells[layout.Map(l, 0, 0)] != 4 || on.Cells[layout.Map(l, 0, 1)] < 8 {
		t.Error("size", on.Cells[layout.Map(l, 0, 0)])
	}
	if did := last(on, 99); did[1] != "add map0.1 1" {
		t.Error("as many buckets as there may be", did)
	}
}

// P20.2: somebody else makes the bucket at the same time.
func TestBucketIsThere(t *testing.T) {
	l, m := laid(12)
	m.Cells[layout.Map(l, 0, 0)] = 2
	m.Cells[layout.Node(l, 1, 0)] = 9
	m.Cells[layout.Node(l, 9, 1)] = word.Dummy(1)
	did, on, out := lab.Alone(l, m, split.Next, 0, nil, op(api.OGet, 0, 1, 0), nil)
	lab.Check(t, did, "load map0.0\n load map0.3\n load map0.2\n"+guard+"load node9.0\n load era\n store resv0.1 5\n load node9.0\n load era\n load node1.0\n load node9.1\n store resv0.0 0\n store resv0.1 0\n cas map0.3 0 9\n"+
		"load node9.0\n load era\n store resv0.0 5\n load node9.0\n load era\n store resv0.0 0\n", out, api.Out{Point: 21})
	if on.Cells[layout.Bucket(l, 0, 1)] != 9 {
		t.Error("the bucket is not made")
	}
	// The word is there already when it is put: the one that was found stays.
	did, on, _ = lab.Alone(l, m, split.Next, 0, nil, op(api.OGet, 0, 1, 0), func(k int, m api.Mem) {
		if k == 17 {
			m.Cells[layout.Bucket(l, 0, 1)] = 9
		}
	})
	if did[17] != "cas map0.3 0 9 no" || did[18] != "load node9.0" {
		t.Error(did)
	}
	// Two generations: the bucket 3 is behind 1, which isn't made either.
	m.Cells[layout.Map(l, 0, 0)] = 4
	did, on, _ = lab.Alone(l, m, split.Next, 0, nil, op(api.OGet, 0, 7, 0), nil)
	if lab.Did(did[:4]) != "load map0.0\nload map0.5\nload map0.3\nload map0.2" || on.Cells[layout.Bucket(l, 0, 1)] != 9 || on.Cells[layout.Bucket(l, 0, 3)] != 3 {
		t.Error(did)
	}
}

func TestWrong(t *testing.T) {
	l, m := laid(6)
	gone := [][2]int{{6, 2}}
	bad := api.Out{Err: api.ErrArg, Point: -1, Gone: gone}
	for _, o := range []api.Op{op(api.OGet, 2, 1, 1), op(api.OPut, -1, 1, 1), op(api.OGet, 0, -1, 1), op(api.ODel, 0, api.MaxKey, 1), op(api.OPush, 0, 1, 1), op(0, 0, 1, 1)} {
		did, _, out := lab.Alone(l, m, split.Next, 0, gone, o, nil)
		lab.Check(t, did, "", out, bad)
	}
	for _, size := range []int{0, 3, 8, -1} {
		m.Cells[layout.Map(l, 0, 0)] = size
		did, _, out := lab.Alone(l, m, split.Next, 0, gone, op(api.OGet, 0, 1, 0), nil)
		lab.Check(t, did, "load map0.0", out, bad)
	}
	m.Cells[layout.Map(l, 0, 0)], m.Cells[layout.Bucket(l, 0, 0)] = 1, 0
	did, _, out := lab.Alone(l, m, split.Next, 0, gone, op(api.OGet, 0, 1, 0), nil)
	lab.Check(t, did, "load map0.0\n load map0.2", out, bad)
	if _, _, out := lab.Alone(l, m, split.Next, 0, nil, op(api.OGet, 1, api.MaxKey-1, 0), nil); out.Err != api.OK {
		t.Error("the greatest key", out)
	}
	if _, _, out := lab.Alone(l, m, split.Next, 0, nil, op(api.OPut, 1, 0, 0), nil); !out.Is {
		t.Error("the least key", out)
	}
}

func TestFull(t *testing.T) {
	l, m := laid(3)
	m.Cells[l.Free] = 0
	did, _, out := lab.Alone(l, m, split.Next, 0, nil, op(api.OPut, 0, 5, 9), nil)
	lab.Check(t, did, comeTo0+guard+"load free\n"+clear1, out, api.Out{Err: api.ErrFull, Point: 7})
	m.Cells[layout.Map(l, 0, 0)] = 2
	did, _, out = lab.Alone(l, m, split.Next, 0, nil, op(api.OGet, 0, 5, 9), nil)
	lab.Check(t, did, "load map0.0\n load map0.3\n load map0.2\n"+guard+"load free\n"+clear1, out, api.Out{Err: api.ErrFull, Point: 8})
}

// P20.5
func TestMany(t *testing.T) {
	for seed := range 120 {
		dice := lab.Dice(seed)
		l, m := laid(45)
		m.Cells[l.Era] = 1
		jobs := make([][]api.Op, 3)
		for i := range jobs {
			for range 10 {
				jobs[i] = append(jobs[i], op([]int{api.OPut, api.OPut, api.OGet, api.ODel}[dice(4)], dice(2), dice(7), dice(100)))
			}
		}
		r := lab.Run(l, m, split.Next, jobs, dice)
		if r.Fault != "" {
			t.Fatal(seed, r.Fault)
		}
		var had []int
		for k := range 2 {
			want, ok := r.Explain(spec.New(api.KMap), api.KMap, k)
			got := split.Content(l, r.M, k)
			if !ok || !slices.Equal(got.Keys, want.Keys) || !slices.Equal(got.Vals, want.Vals) {
				t.Fatal(seed, ok, got, want)
			}
			if r.M.Cells[layout.Map(l, k, 1)] != len(got.Keys) {
				t.Fatal(seed, "how many", r.M.Cells[layout.Map(l, k, 1)], got)
			}
			had = append(append(had, k+1), list.Nodes(l, r.M, layout.Node(l, k+1, 0))...)
			for b := range 4 {
				n := word.Of(r.M.Cells[layout.Bucket(l, k, b)]).Idx
				if n != 0 && r.M.Cells[layout.Node(l, n, 1)] != word.Dummy(b) {
					t.Fatal(seed, "a bucket's word leads elsewhere")
				}
			}
		}
		if !r.Nodes(had) {
			t.Fatal(seed, "nodes are lost", had)
		}
		for i := 1; i < len(r.Events); i++ {
			if e := r.Events[i]; e.Access.Kind == api.ACas && e.Result.Ok && (e.Access.Cell == layout.Map(l, 0, 0) || e.Access.Cell == layout.Map(l, 1, 0)) && e.Access.New != 2*e.Access.Old {
				t.Fatal(seed, "the size", e)
			}
		}
	}
}
