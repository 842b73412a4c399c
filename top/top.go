// Package top is tries at a stack's top: layer 21 tries again and again, layer 22 meets others in between.
package top

import (
	"underwood/api"
	"underwood/hold"
	"underwood/layout"
	"underwood/word"
)

// The cells of a node.
const (
	belowCell = 0
	valueCell = 1
)

// Top is a stack's top, as a program comes to it.
type Top struct {
	*hold.Hold
	cell  int
	Point func() int // where the last access stands among the program's
}

// Of is the top of a stack that there is.
func Of(h *hold.Hold, s int) Top {
	return Top{Hold: h, cell: layout.Top(h.L, s), Point: h.Place}
}

// Fill takes a node for a value; if there is none, what is told then.
func (t Top) Fill(value int) (node int, full api.Out) {
	taken := t.Take()
	if !taken.Is {
		return 0, api.Out{Err: taken.Err, Point: taken.Point}
	}
	t.Store(layout.Node(t.L, taken.Val, valueCell), value)
	return taken.Val, api.Out{}
}

// Push tries to lay a node on top.
func (t Top) Push(node int) bool {
	was := t.Load(t.cell)
	first := word.Of(was)
	t.Store(layout.Node(t.L, node, belowCell), first.Idx)
	return t.Cas(t.cell, was, word.Pack(word.Turn(first, node)))
}

// Popped is what a try to take the top node away came to.
type Popped struct {
	Node  int // 0: there was none
	Went  bool
	Point int // of what was seen, or done
}

// Pop tries to take the top node away.
func (t Top) Pop() Popped {
	was, point := t.Guard(0, t.cell)
	first := word.Of(was)
	if first.Idx == 0 {
		return Popped{Point: point}
	}
	below := t.Load(layout.Node(t.L, first.Idx, belowCell))
	went := t.Cas(t.cell, was, word.Pack(word.Turn(first, below)))
	return Popped{Node: first.Idx, Went: went, Point: t.Point()}
}

// Empty is what a pop tells that saw nothing.
func (t Top) Empty(p Popped) api.Out {
	t.Clear()
	return api.Out{Point: p.Point}
}

// Use tells the value of a node that was taken away, and retires it.
func (t Top) Use(p Popped) api.Out {
	value := t.Load(layout.Node(t.L, p.Node, valueCell))
	t.Clear()
	t.Retire(p.Node)
	return api.Out{Val: value, Is: true, Point: p.Point}
}
