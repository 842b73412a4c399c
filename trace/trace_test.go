package trace_test

import (
	"bytes"
	"math"
	"reflect"
	"slices"
	"testing"

	"underwood/api"
	"underwood/run"
	"underwood/sample"
	"underwood/trace"
	"underwood/wire"
)

func event(worker, seat, kind, cell, old, new, val int, ok bool) api.Event {
	return api.Event{Worker: worker, Seat: seat, Access: api.Access{Kind: kind, Cell: cell, Old: old, New: new}, Result: api.Result{Val: val, Ok: ok}}
}

func some() []api.Event {
	return []api.Event{event(1, 0, 1, 2, 0, 0, 7, true), event(2, 3, 0, 0, 0, 0, 0, false), event(0, 4, 3, 5, -6, math.MaxInt, math.MinInt, false), event(-1, -2, -3, -4, -5, -6, -7, true)}
}

// P32.1
func TestBytes(t *testing.T) {
	for i, x := range []struct {
		l    []api.Event
		want []int
	}{
		{nil, nil},
		{some()[:1], []int{1, 0, 1, 2, 0, 0, 7, 1}},
		{some(), []int{1, 0, 1, 2, 0, 0, 7, 1, 2, 3, 0, 0, 0, 0, 0, 0, 0, 4, 3, 5, -6, math.MaxInt, math.MinInt, 0, -1, -2, -3, -4, -5, -6, -7, 1}},
	} {
		if got := trace.Bytes(x.l); !bytes.Equal(got, wire.Seal(wire.Nums(x.want))) {
			t.Error(i, got)
		}
	}
}

// P32.2
func TestParse(t *testing.T) {
	for n := range some() {
		l := some()[:n]
		if got, err := trace.Parse(trace.Bytes(l)); err != api.OK || !slices.Equal(got, l) {
			t.Error(got, err)
		}
	}
	eight := []int{1, 0, 1, 2, 0, 0, 7, 1}
	for i, b := range [][]byte{
		nil, {0}, append(trace.Bytes(some()), 0), trace.Bytes(some())[1:], wire.Nums(eight),
		wire.Seal(append(wire.Nums(eight), 0)), wire.Seal(wire.Nums(eight[:7])), wire.Seal(wire.Nums(append(slices.Clone(eight), 1))), wire.Seal(nil), wire.Seal([]byte{128}),
		wire.Seal(wire.Nums([]int{1, 0, 1, 2, 0, 0, 7, 2})), wire.Seal(wire.Nums([]int{1, 0, 1, 2, 0, 0, 7, -1})), wire.Seal(wire.Nums(slices.Concat(eight, []int{1, 0, 1, 2, 0, 0, 7, 9}))),
	} {
		if got, err := trace.Parse(b); err != api.ErrForm || len(got) != 0 {
			t.Error(i, got, err)
		}
	}
}

// P32.3
func TestPicks(t *testing.T) {
	want := []api.Pick{{Kind: api.PStep, A: 1}, {Kind: api.PDie, A: 2}, {Kind: api.PStep}, {Kind: api.PStep, A: -1}}
	if got := trace.Picks(some()); !slices.Equal(got, want) || len(trace.Picks(nil)) != 0 {
		t.Error(got)
	}
}

// P32.4
func TestWhatFollows(t *testing.T) {
	good := trace.Bytes(some())
	inner := len(good) - len(wire.Put(wire.Sum(good)))
	for i := range good {
		for d := 1; d < 256; d += 7 {
			b := slices.Clone(good)
			b[i] += byte(d)
			l, err := trace.Parse(b)
			if err == api.OK && (slices.Equal(l, some()) || i > 0 && i < inner-5) {
				t.Fatal("another byte", i, d, l)
			}
			if err == api.OK && !bytes.Equal(trace.Bytes(l), b) {
				t.Fatal("what is read is what is written", i, d)
			}
		}
	}
	for seed := range 20 {
		dice := sample.Dice(seed)
		all := slices.Concat(sample.Free(), sample.Racy())
		c := sample.Code(all[seed%len(all)])
		conf := sample.Conf(c, 3)
		one, _ := run.Play(c, conf, sample.Picks(dice, 3, 200), 100000)
		two, err := run.Play(c, conf, trace.Picks(one.Events), 100000)
		if err != api.OK || !reflect.DeepEqual(one, two) {
			t.Fatal(seed, "played by its picks")
		}
	}
}
