package bound_test

import (
	"slices"
	"testing"

	"underwood/api"
	"underwood/bound"
	"underwood/elide"
	"underwood/run"
	"underwood/sample"
	"underwood/script"
	"underwood/sp"
)

var split = []api.Split{{Kind: api.SFork, A: 0, B: 1, C: 2, D: 3}, {Kind: api.SEnd, A: 1, D: 3}, {Kind: api.SJoin, A: 2, D: 3}}

func uses(strands ...int) api.Elided {
	e := api.Elided{Split: split}
	for _, s := range strands {
		e.Uses = append(e.Uses, api.Use{Strand: s})
	}
	return e
}

// P35.1
func TestChain(t *testing.T) {
	for i, x := range []struct {
		e    api.Elided
		want []int
	}{
		{uses(), nil},
		{uses(1, 2, 3), []int{0, 2}},
		{uses(0), []int{0}},
		{uses(1, 2), []int{0}},
		{uses(0, 1, 1, 2, 2, 3), []int{0, 1, 2, 5}},
		{uses(0, 1, 2, 2, 3, 3), []int{0, 2, 3, 4, 5}},
		{uses(2, 1, 1, 2), []int{1, 2}},
		{uses(1, 2, 2, 1), []int{1, 2}},
		{uses(1, 2, 1, 2, 3), []int{0, 2, 4}},
		{api.Elided{Uses: make([]api.Use, 4)}, []int{0, 1, 2, 3}},
		{api.Elided{Uses: make([]api.Use, 4), Split: []api.Split{{}}}, nil},
	} {
		if got := bound.Chain(x.e); !slices.Equal(got, x.want) || bound.Span(x.e) != len(x.want) || bound.Work(x.e) != len(x.e.Uses) {
			t.Error(i, got)
		}
	}
}

// chains are all rows of places each of which stands ahead of the next one.
func chains(o [][2]int, strands []int, row []int, yield func([]int)) {
	yield(row)
	for k := range strands {
		if len(row) > 0 {
			i := row[len(row)-1]
			if k <= i || strands[i] != strands[k] && !sp.Ahead(o, strands[i], strands[k]) {
				continue
			}
		}
		chains(o, strands, append(slices.Clone(row), k), yield)
	}
}

func TestChainOfAll(t *testing.T) {
	deeper := append(slices.Clone(split[:1]), api.Split{Kind: api.SFork, A: 1, B: 4, C: 5, D: 6}, api.Split{Kind: api.SEnd, A: 4, D: 6}, api.Split{Kind: api.SJoin, A: 5, D: 6}, api.Split{Kind: api.SEnd, A: 6, D: 3}, api.Split{Kind: api.SJoin, A: 2, D: 3})
	o, err := sp.Of(deeper)
	if err != api.OK {
		t.Fatal(err)
	}
	for seed := range 200 {
		dice := sample.Dice(seed)
		e := api.Elided{Split: deeper}
		var strands []int
		for range dice(10) {
			strands = append(strands, dice(7))
		}
		slices.SortStableFunc(strands, func(a, b int) int { return o[a][0] - o[b][0] }) // as an elision tells them
		for _, s := range strands {
			e.Uses = append(e.Uses, api.Use{Strand: s})
		}
		var best []int
		chains(o, strands, nil, func(row []int) {
			if len(row) < len(best) {
				return
			}
			a, b := slices.Clone(row), slices.Clone(best)
			slices.Reverse(a)
			slices.Reverse(b)
			if len(row) > len(best) || slices.Compare(a, b) < 0 {
				best = row
			}
		})
		if got := bound.Chain(e); !slices.Equal(got, best) {
			t.Fatal(strands, got, best)
		}
	}
}

// P35.2
func TestSteps(t *testing.T) {
	conf := api.Conf{Seats: 2, Nodes: 10}
	e := api.Elided{Uses: make([]api.Use, 3), Tasks: 2}
	r, u := 64*16, 3+2+4+1
	if got := bound.Steps(conf, e, 5); got != 5+2*57*(72*2*r*u+1) {
		t.Error(got)
	}
	if got := bound.Steps(api.Conf{Seats: 8, Nodes: 1000}, api.Elided{Uses: make([]api.Use, 100000), Tasks: 64}, api.MaxStep); got != 1<<20+8*225*(72*8*64*1012*(100000+64+64+1)+1) {
		t.Error(got)
	}
	if got := bound.Steps(api.Conf{Seats: 1}, api.Elided{}, 0); got != 29*(72*64*5*2+1) {
		t.Error(got)
	}
	for i, x := range []struct {
		conf  api.Conf
		e     api.Elided
		picks int
	}{
		{api.Conf{Seats: 0}, e, 0}, {api.Conf{Seats: 9}, e, 0}, {api.Conf{Seats: 1, Nodes: -1}, e, 0}, {api.Conf{Seats: 1, Nodes: 1001}, e, 0},
		{conf, e, -1}, {conf, e, api.MaxStep + 1}, {conf, api.Elided{Uses: make([]api.Use, 100001)}, 0}, {conf, api.Elided{Tasks: 65}, 0}, {conf, api.Elided{Tasks: -1}, 0},
	} {
		if got := bound.Steps(x.conf, x.e, x.picks); got != -1 {
			t.Error(i, got)
		}
	}
}

// P35.3
func TestWhatFollows(t *testing.T) {
	for i, text := range sample.Free() {
		c := sample.Code(text)
		e := elide.Run(c)
		work, span := bound.Work(e), bound.Span(e)
		o, _ := sp.Of(e.Split)
		if span > work || work > len(o)*span || len(e.Split) == 0 && span != work {
			t.Error(text, work, span)
		}
		dice := sample.Dice(i)
		conf := sample.Conf(c, 3)
		l := sample.Picks(dice, 3, 100)
		s, _ := run.Play(c, conf, l, api.MaxStep)
		if s.Err != api.OK || len(s.Events) < work || len(s.Events) > bound.Steps(conf, e, len(script.Plain(3, l))) {
			t.Error(text, len(s.Events), work)
		}
	}
}
