package layout

import "underwood/api"

// none is the cell of what there isn't.
const none = -1

// index is a number of a row of so many, which begins at low.
type index struct{ n, low, many int }

func from0(n, many int) index { return index{n, 0, many} }

func from1(n, many int) index { return index{n, 1, many} }

// at is the cell of an element of a part, and of a number in it.
func at(first int, element index, cells int, inner index) int {
	if element.n < element.low || element.n >= element.low+element.many || inner.n < 0 || inner.n >= inner.many {
		return none
	}
	return first + (element.n-element.low)*cells + inner.n
}

// alone is the only number there is.
func alone() index { return from0(0, 1) }

// Rings is how many rings a seat has.
func Rings(l api.Layout) int { return rings(l.Conf.Tasks) }

// Alive is the cell of a worker.
func Alive(l api.Layout, w int) int { return at(l.Alive, from0(w, l.Conf.Seats), 1, alone()) }

// Owner is the cell of a seat's owner.
func Owner(l api.Layout, seat int) int { return at(l.Owner, from0(seat, l.Conf.Seats), 1, alone()) }

// Resv is the cell of a seat's reservation.
func Resv(l api.Layout, seat, i int) int {
	return at(l.Resv, from0(seat, l.Conf.Seats), resvCells, from0(i, resvCells))
}

// Deque is a cell of a seat's deque.
func Deque(l api.Layout, seat, i int) int {
	return at(l.Deque, from0(seat, l.Conf.Seats), dequeCells, from0(i, dequeCells))
}

// Ring is the first cell of a seat's ring.
func Ring(l api.Layout, seat, r int) int {
	many := Rings(l)
	if r < 0 || r >= many {
		return none
	}
	cells := ringCells(many)
	return at(l.Ring, from0(seat, l.Conf.Seats), cells, from0(ringCells(r), cells))
}

// Task is a cell of a task.
func Task(l api.Layout, t, i int) int {
	return at(l.Task, from1(t, l.Conf.Tasks), taskCells, from0(i, taskCells))
}

// Cell is the cell of a cell.
func Cell(l api.Layout, i int) int { return at(l.Cell, from0(i, l.Conf.Cells), 1, alone()) }

// Map is a cell of a map.
func Map(l api.Layout, m, i int) int {
	return at(l.Map, from0(m, l.Conf.Maps), mapCells+l.Conf.Buckets, from0(i, mapCells))
}

// Bucket is the cell of a bucket's word.
func Bucket(l api.Layout, m, b int) int {
	return at(l.Map+mapCells, from0(m, l.Conf.Maps), mapCells+l.Conf.Buckets, from0(b, l.Conf.Buckets))
}

// Top is the cell of a stack's top.
func Top(l api.Layout, s int) int {
	return at(l.Stack, from0(s, l.Conf.Stacks), stackCells+l.Conf.Slots, alone())
}

// Slot is the cell of a stack's slot.
func Slot(l api.Layout, s, i int) int {
	return at(l.Stack+stackCells, from0(s, l.Conf.Stacks), stackCells+l.Conf.Slots, from0(i, l.Conf.Slots))
}

// Head is the cell of a channel's head.
func Head(l api.Layout, c int) int { return at(l.Chan, from0(c, l.Conf.Chans), chanCells, alone()) }

// Tail is the cell of a channel's tail.
func Tail(l api.Layout, c int) int { return at(l.Chan+1, from0(c, l.Conf.Chans), chanCells, alone()) }

// Node is a cell of a node.
func Node(l api.Layout, n, i int) int {
	return at(l.Node, from1(n, l.Conf.Nodes), nodeCells, from0(i, nodeCells))
}
