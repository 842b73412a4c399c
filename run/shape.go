package run

import (
	"slices"

	"underwood/api"
	"underwood/chain"
	"underwood/elide"
	"underwood/layout"
	"underwood/obj"
)

// Shape is what comes of a run.
func Shape(s api.State) api.Shape {
	if !s.Over {
		return api.Shape{Err: api.ErrBudget}
	}
	if s.Err != api.OK {
		return api.Shape{Err: s.Err}
	}
	contents := func(kind, many int) []api.Content {
		var l []api.Content
		for i := range many {
			l = append(l, obj.Content(s.Layout, s.Mem, kind, i))
		}
		return l
	}
	shape := api.Shape{
		Value: s.Value,
		Maps:  contents(api.KMap, s.Layout.Conf.Maps),
		Stack: contents(api.KStack, s.Layout.Conf.Stacks),
		Chans: contents(api.KChan, s.Layout.Conf.Chans),
		Tasks: chain.Has(s.Mem, s.Layout.Count),
	}
	for i := range s.Layout.Conf.Cells {
		shape.Cells = append(shape.Cells, chain.Has(s.Mem, layout.Cell(s.Layout, i)))
	}
	for _, f := range s.Frames {
		if f.Fail {
			shape.Fails = append(shape.Fails, slices.Clone(f.Path))
		}
	}
	slices.SortFunc(shape.Fails, func(a, b []int) int {
		switch {
		case elide.Less(a, b):
			return -1
		case elide.Less(b, a):
			return 1
		}
		return 0
	})
	return shape
}

// Of is what comes of an elision.
func Of(e api.Elided) api.Shape {
	if e.Err != api.OK {
		return api.Shape{Err: e.Err}
	}
	return api.Shape{Value: e.Value, Cells: e.Cells, Maps: e.Maps, Stack: e.Stack, Chans: e.Chans, Tasks: e.Tasks, Fails: e.Fails}
}

// Same: are two shapes the same?
func Same(a, b api.Shape) bool {
	return a.Err == b.Err && a.Value == b.Value && a.Tasks == b.Tasks &&
		slices.Equal(a.Cells, b.Cells) &&
		slices.EqualFunc(a.Maps, b.Maps, sameContent) &&
		slices.EqualFunc(a.Stack, b.Stack, sameContent) &&
		slices.EqualFunc(a.Chans, b.Chans, sameContent) &&
		slices.EqualFunc(a.Fails, b.Fails, slices.Equal[[]int])
}

func sameContent(a, b api.Content) bool {
	return a.Kind == b.Kind && slices.Equal(a.Keys, b.Keys) && slices.Equal(a.Vals, b.Vals)
}
