package chain_test

import (
	"slices"
	"testing"

	"underwood/api"
	"underwood/chain"
)

func TestHas(t *testing.T) {
	m := api.Mem{Cells: []int{4, 5}}
	for cell, want := range map[int]int{-1: 0, 0: 4, 1: 5, 2: 0, 1 << 40: 0} {
		if got := chain.Has(m, cell); got != want {
			t.Error(cell, got)
		}
	}
}

func TestNodes(t *testing.T) {
	l := api.Layout{Conf: api.Conf{Nodes: 4}}
	for i, x := range []struct {
		first int
		next  map[int]int
		want  []int
	}{
		{0, nil, nil}, {-1, nil, nil}, {5, nil, nil}, {4, nil, []int{4}}, {1, nil, []int{1}},
		{1, map[int]int{1: 4, 4: 2}, []int{1, 4, 2}}, {1, map[int]int{1: 2, 2: 1}, []int{1, 2}}, {3, map[int]int{3: 3}, []int{3}}, {1, map[int]int{1: 5, 5: 2}, []int{1}},
	} {
		if got := chain.Nodes(l, x.first, func(n int) int { return x.next[n] }); !slices.Equal(got, x.want) {
			t.Error(i, got)
		}
	}
	l.Conf.Nodes = api.MaxNode
	if got := chain.Nodes(l, 1, func(n int) int { return n + 1 }); len(got) != api.MaxNode {
		t.Error(len(got))
	}
}
