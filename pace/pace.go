// Package pace runs a program of accesses as plain code: again and again from its beginning on, by what its accesses were told so far.
package pace

import (
	"sort"

	"underwood/api"
)

// Next is the form of all programs of accesses.
type Next func(l api.Layout, me int, gone [][2]int, op api.Op, log []api.Result) (api.Access, api.Out, bool)

// stop is what a walk panics with where its log ends: the access that comes next.
type stop struct{ next api.Access }

// Walk is a program that is run by a log.
type Walk struct {
	log  []api.Result
	made int
}

// Run is what a program does next, or what it tells.
func Run(log []api.Result, program func(w *Walk) api.Out) (next api.Access, out api.Out, done bool) {
	defer func() {
		if r := recover(); r != nil {
			s, ok := r.(stop)
			if !ok {
				panic(r)
			}
			next, out, done = s.next, api.Out{}, false
		}
	}()
	return api.Access{}, program(&Walk{log: log}), true
}

// Place is the place of the last access.
func (w *Walk) Place() int { return w.made - 1 }

// do makes an access, and is what it was told.
func (w *Walk) do(a api.Access) api.Result {
	if w.made >= len(w.log) {
		panic(stop{a})
	}
	w.made++
	return w.log[w.made-1]
}

// Load is what a cell has.
func (w *Walk) Load(cell int) int { return w.do(api.Access{Kind: api.ALoad, Cell: cell}).Val }

// Store puts a number into a cell.
func (w *Walk) Store(cell, n int) { w.do(api.Access{Kind: api.AStore, Cell: cell, New: n}) }

// Cas puts a number into a cell that has another one, and tells whether it went.
func (w *Walk) Cas(cell, old, new int) bool {
	return w.do(api.Access{Kind: api.ACas, Cell: cell, Old: old, New: new}).Ok
}

// Add puts more into a cell, and tells what that had.
func (w *Walk) Add(cell, n int) int {
	return w.do(api.Access{Kind: api.AAdd, Cell: cell, New: n}).Val
}

// Call makes the accesses of another program's operation, as a piece of this one, and is what it tells. How many they were isn't told by it: they are the least with which it is done.
func (w *Walk) Call(next Next, l api.Layout, me int, gone [][2]int, op api.Op) api.Out {
	rest := w.log[w.made:]
	a, out, done := next(l, me, gone, op, rest)
	if !done {
		panic(stop{a})
	}
	if out.Point >= 0 {
		out.Point += w.made
	}
	w.made += sort.Search(len(rest), func(many int) bool {
		_, _, done := next(l, me, gone, op, rest[:many])
		return done
	})
	return out
}

// At is the access that another program's operation makes at a place of this one's accesses, if it began at another one.
func (w *Walk) At(next Next, l api.Layout, me int, gone [][2]int, op api.Op, first, place int) api.Access {
	a, _, _ := next(l, me, gone, op, w.log[first:place])
	return a
}
