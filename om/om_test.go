package om_test

import (
	"slices"
	"testing"

	"underwood/api"
	"underwood/om"
)

func of(l ...int) api.Order { return api.Order{Labels: l} }

func behind(t *testing.T, o api.Order, x int) api.Order {
	t.Helper()
	next, n, err := om.Behind(o, x)
	if err != api.OK || n != len(o.Labels) || len(next.Labels) != n+1 {
		t.Fatal(next, n, err)
	}
	return next
}

// P11.1
func TestRight(t *testing.T) {
	if !slices.Equal(om.New().Labels, []int{0}) {
		t.Error(om.New())
	}
	full := make([]int, om.Most)
	for i := range full {
		full[i] = i
	}
	for i, x := range []struct {
		o    api.Order
		want bool
	}{
		{of(), false}, {of(0), true}, {of(1 << 40), true}, {of(1<<40 + 1), false}, {of(-1), false}, {of(5, 3, 9), true}, {of(5, 3, 5), false}, {of(3, -1), false},
		{of(full...), true}, {of(append(slices.Clone(full), om.Most)...), false},
	} {
		if om.Right(x.o) != x.want {
			t.Error(i)
		}
	}
}

// P11.2
func TestBehind(t *testing.T) {
	g := om.Gap
	for i, x := range []struct {
		o    api.Order
		x    int
		want []int
	}{
		{of(0), 0, []int{0, g}},
		{of(0, g), 0, []int{0, g, g / 2}},
		{of(0, g), 1, []int{0, g, 2 * g}},
		{of(10, 13), 0, []int{10, 13, 11}},
		{of(10, 12), 0, []int{10, 12, 11}},
		{of(10, 11), 0, []int{0, g, g / 2}},
		{of(11, 10), 1, []int{g, 0, g / 2}},
		{of(11, 10, 12), 0, []int{g, 0, 2 * g, g + g/2}},
		{of(1 << 40), 0, []int{0, g}},
		{of(1<<40 - 2*g), 0, []int{1<<40 - 2*g, 1<<40 - g}},
		{of(3, 1<<40-2*g+1), 1, []int{0, g, 2 * g}},
		{of(3, 1<<40-2*g+1), 0, []int{3, 1<<40 - 2*g + 1, 3 + (1<<40-2*g-2)/2}},
		{of(1<<40, 1<<40-1), 1, []int{g, 0, g / 2}},
	} {
		was := slices.Clone(x.o.Labels)
		if next := behind(t, x.o, x.x); !slices.Equal(next.Labels, x.want) || !slices.Equal(x.o.Labels, was) {
			t.Error(i, next)
		}
	}
}

func TestBehindWrong(t *testing.T) {
	for i, x := range []struct {
		o    api.Order
		x    int
		want api.Errno
	}{
		{of(), 0, api.ErrArg}, {of(1, 1), 0, api.ErrArg}, {of(1), 1, api.ErrArg}, {of(1), -1, api.ErrArg},
	} {
		if o, n, err := om.Behind(x.o, x.x); err != x.want || n != 0 || !slices.Equal(o.Labels, x.o.Labels) {
			t.Error(i, o, n, err)
		}
	}
	o := om.New()
	for range om.Most - 1 {
		o = behind(t, o, len(o.Labels)/2)
	}
	if p, n, err := om.Behind(o, 0); err != api.ErrBound || n != 0 || !slices.Equal(p.Labels, o.Labels) {
		t.Error(n, err)
	}
	if _, _, err := om.Behind(o, om.Most); err != api.ErrArg {
		t.Error("what isn't right is named ahead", err)
	}
}

// P11.3
func TestBeforeAndRow(t *testing.T) {
	o := of(5, 3, 9)
	if first := of(0, 1); !om.Before(first, 0, 1) || om.Before(first, 1, 0) {
		t.Error("the first one")
	}
	if !om.Before(o, 1, 0) || om.Before(o, 0, 1) || om.Before(o, 0, 0) || om.Before(o, 0, 3) || om.Before(o, -1, 0) || om.Before(o, 3, 0) || om.Before(of(1, 2, 2), 0, 1) {
		t.Error("Before")
	}
	if !slices.Equal(om.Row(o), []int{1, 0, 2}) || len(om.Row(of(1, 1))) != 0 || len(om.Row(of())) != 0 || !slices.Equal(om.Row(om.New()), []int{0}) {
		t.Error("Row")
	}
}

// P11.4
func TestWhatFollows(t *testing.T) {
	o, row := om.New(), []int{0}
	seed := 7
	for n := 1; n < 400; n++ {
		seed = (seed*1103515245 + 12345) & (1<<31 - 1)
		x := (seed >> 8) % n
		if n%3 == 0 {
			x = 0 // again and again at one place, so that labels are laid anew
		}
		x = max(0, min(x, n-1))
		o = behind(t, o, x)
		row = slices.Insert(row, slices.Index(row, x)+1, n)
		if !slices.Equal(om.Row(o), row) {
			t.Fatal(n, om.Row(o), row)
		}
	}
	o = of(10, 11, 12)
	o = behind(t, o, 0)
	anew := slices.Clone(o.Labels)
	for range 19 {
		o = behind(t, o, 0)
		if !slices.Equal(o.Labels[:4], anew) {
			t.Fatal("labels are laid anew too soon", o)
		}
	}
}
