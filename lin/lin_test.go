package lin_test

import (
	"slices"
	"testing"

	"underwood/api"
	"underwood/lab"
	"underwood/lin"
	"underwood/spec"
)

func push(n, first, last int) api.Call {
	return api.Call{Op: api.Op{Kind: api.OPush, A: n}, Is: true, First: first, Last: last}
}

func pop(n, first, last int) api.Call {
	return api.Call{Op: api.Op{Kind: api.OPop}, Val: n, Is: true, First: first, Last: last}
}

func none(first, last int) api.Call {
	return api.Call{Op: api.Op{Kind: api.OPop}, First: first, Last: last}
}

func empty() api.Content { return spec.New(api.KStack) }

// P27.1
func TestFits(t *testing.T) {
	l := []api.Call{push(1, 0, 5), pop(1, 1, 2), push(2, 3, 9)}
	for i, x := range []struct {
		order []int
		want  bool
	}{
		{[]int{0, 1, 2}, true}, {[]int{1, 0, 2}, false}, {[]int{0, 2, 1}, false}, {[]int{2, 0, 1}, false},
		{[]int{0, 1}, false}, {[]int{0, 1, 1}, false}, {[]int{0, 1, 3}, false}, {[]int{0, 1, -1}, false}, {[]int{0, 1, 2, 2}, false}, {nil, false},
	} {
		if lin.Fits(empty(), l, x.order) != x.want {
			t.Error(i)
		}
	}
	if twice := []api.Call{push(1, 0, 9), push(1, 0, 9)}; lin.Fits(empty(), twice, []int{0, 0}) || lin.Fits(empty(), twice, []int{1, 1}) || !lin.Fits(empty(), twice, []int{1, 0}) {
		t.Error("a place that is told twice")
	}
	if !lin.Fits(empty(), nil, nil) {
		t.Error("no calls")
	}
	if !lin.Fits(api.Content{Kind: api.KStack, Vals: []int{7}}, []api.Call{pop(7, 0, 0)}, []int{0}) {
		t.Error("from a content on")
	}
	if lin.Fits(empty(), []api.Call{push(1, 0, 1), pop(2, 2, 3)}, []int{0, 1}) || lin.Fits(empty(), []api.Call{{Op: api.Op{Kind: api.OPush}, Is: false}}, []int{0}) {
		t.Error("another value, another answer")
	}
	if lin.Fits(empty(), []api.Call{{Op: api.Op{Kind: api.OSend}, Is: true}}, []int{0}) {
		t.Error("an operation of another kind")
	}
	// Calls that touch may stand either way.
	if !lin.Fits(empty(), []api.Call{pop(1, 0, 3), push(1, 3, 4)}, []int{1, 0}) {
		t.Error("calls that touch")
	}
}

// P27.2
func TestOrder(t *testing.T) {
	for i, x := range []struct {
		c    api.Content
		l    []api.Call
		want []int
		ok   bool
	}{
		{empty(), nil, nil, true},
		{empty(), []api.Call{push(1, 0, 5), pop(1, 1, 2)}, []int{0, 1}, true},
		{empty(), []api.Call{pop(1, 0, 1), push(1, 2, 3)}, nil, false},
		{empty(), []api.Call{pop(1, 0, 2), push(1, 2, 3)}, []int{1, 0}, true},
		{empty(), []api.Call{push(1, 0, 9), push(2, 0, 9), push(3, 0, 9)}, []int{0, 1, 2}, true},
		{empty(), []api.Call{push(1, 0, 9), push(2, 0, 9), pop(1, 10, 11)}, []int{1, 0, 2}, true},
		{empty(), []api.Call{none(0, 9), push(1, 0, 9), pop(1, 0, 9), none(0, 9)}, []int{0, 1, 2, 3}, true},
		{empty(), []api.Call{push(1, 0, 9), none(0, 9)}, []int{1, 0}, true},
		{api.Content{Kind: api.KStack, Vals: []int{4}}, []api.Call{none(0, 9), pop(4, 0, 9)}, []int{1, 0}, true},
		{api.Content{Kind: api.KStack, Vals: []int{4}}, []api.Call{none(0, 9)}, nil, false},
	} {
		got, ok := lin.Order(x.c, x.l)
		if ok != x.ok || !slices.Equal(got, x.want) {
			t.Error(i, got, ok)
		}
	}
	var many []api.Call
	for i := range lin.Most {
		many = append(many, push(i, i, i))
	}
	if got, ok := lin.Order(empty(), many); !ok || len(got) != lin.Most {
		t.Error("Most calls", got, ok)
	}
	if got, ok := lin.Order(empty(), append(many, push(1, 99, 99))); ok || len(got) != 0 {
		t.Error("more than Most", got, ok)
	}
}

// orders are all orders of n places, as they are compared.
func orders(n int) [][]int {
	if n == 0 {
		return [][]int{{}}
	}
	var all [][]int
	var grow func(order []int)
	grow = func(order []int) {
		if len(order) == n {
			all = append(all, slices.Clone(order))
			return
		}
		for k := range n {
			if !slices.Contains(order, k) {
				grow(append(order, k))
			}
		}
	}
	grow(nil)
	return all
}

// P27.2, P27.3: the first that fits, of all there are.
func TestFirst(t *testing.T) {
	dice := lab.Dice(3)
	found := 0
	for range 400 {
		var l []api.Call
		for range 5 {
			first := dice(8)
			c := []api.Call{push(dice(2), 0, 0), pop(dice(2), 0, 0), none(0, 0)}[dice(3)]
			c.First, c.Last = first, first+dice(6)
			l = append(l, c)
		}
		var want []int
		for _, order := range orders(len(l)) {
			if lin.Fits(empty(), l, order) {
				want = order
				break
			}
		}
		got, ok := lin.Order(empty(), l)
		if ok != (want != nil) || !slices.Equal(got, want) {
			t.Fatal(l, got, want)
		}
		if !ok {
			continue
		}
		found++
		longer := slices.Clone(l)
		for i := range longer {
			longer[i].Last += 3
			longer[i].First = max(0, longer[i].First-3)
		}
		if _, ok := lin.Order(empty(), longer); !ok {
			t.Fatal("longer calls lost their order", l)
		}
		last := got[len(got)-1]
		if _, ok := lin.Order(empty(), slices.Delete(slices.Clone(l), last, last+1)); !ok {
			t.Fatal("without the last one", l)
		}
		slices.Reverse(l)
		if _, ok := lin.Order(empty(), l); !ok {
			t.Fatal("in which order calls are told", l)
		}
	}
	if found < 50 {
		t.Error(found)
	}
}
