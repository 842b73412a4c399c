// Package hold is what programs do with nodes that others may read: they reserve eras, take, give back, and retire. Layer 16 shows it as operations; it is a piece of those above.
package hold

import (
	"slices"

	"underwood/api"
	"underwood/arena"
	"underwood/layout"
	"underwood/pace"
)

// Slots is how many reservations a seat has.
const Slots = 3

const birth = 6 // the cell of a node's birth

// Hold is a program's walk, with what its seat holds.
type Hold struct {
	*pace.Walk
	L    api.Layout
	Me   int
	Gone [][2]int
	eras [Slots]int // what this program stored into each reservation last
}

// Run is what a program that holds nodes does next, or what it tells; its Gone is what the seat has gone then.
func Run(l api.Layout, me int, gone [][2]int, log []api.Result, program func(h *Hold) api.Out) (api.Access, api.Out, bool) {
	return pace.Run(log, func(w *pace.Walk) api.Out {
		h := &Hold{Walk: w, L: l, Me: me, Gone: slices.Clone(gone)}
		out := program(h)
		out.Gone = h.Gone
		return out
	})
}

// Wrong is what is told at once of an operation that may not be.
func (h *Hold) Wrong() api.Out { return api.Out{Err: api.ErrArg, Point: -1} }

// Guard is what a cell has, when its era is reserved, and which access loaded it.
func (h *Hold) Guard(slot, cell int) (val, point int) {
	for {
		val = h.Load(cell)
		point = h.Place()
		now := h.Load(h.L.Era)
		if now == h.eras[slot] {
			return val, point
		}
		h.Store(layout.Resv(h.L, h.Me, slot), now)
		h.eras[slot] = now
	}
}

// Clear takes back what this program reserved.
func (h *Hold) Clear() {
	for slot, now := range h.eras {
		if now != 0 {
			h.Store(layout.Resv(h.L, h.Me, slot), 0)
			h.eras[slot] = 0
		}
	}
}

// Drop takes back all that the seat reserved, whichever program did.
func (h *Hold) Drop() api.Out {
	for slot := range Slots {
		h.Store(layout.Resv(h.L, h.Me, slot), 0)
	}
	return api.Out{Is: true, Point: h.Place()}
}

// Take takes a node; its Point is an access of this program.
func (h *Hold) Take() api.Out {
	return h.Call(arena.Next, h.L, h.Me, nil, api.Op{Kind: arena.Take})
}

// Give gives a node back, that nobody else can have read.
func (h *Hold) Give(node int) {
	h.Call(arena.Next, h.L, h.Me, nil, api.Op{Kind: arena.Give, A: node})
}

// Retire gives a node back as soon as nobody holds it, and tells its point.
func (h *Hold) Retire(node int) int {
	now := h.Load(h.L.Era)
	h.Add(h.L.Era, 1)
	point := h.Place()
	h.Gone = append(h.Gone, [2]int{node, now})
	if len(h.Gone) < 2*h.L.Conf.Seats {
		return point
	}
	var held [api.MaxWork][Slots]int
	for seat := range min(h.L.Conf.Seats, len(held)) {
		for slot := range Slots {
			held[seat][slot] = h.Load(layout.Resv(h.L, seat, slot))
		}
	}
	var stays [][2]int
	for _, g := range h.Gone {
		born := max(h.Load(layout.Node(h.L, g[0], birth)), 1)
		if holds(held, born, g[1]) {
			stays = append(stays, g)
		} else {
			h.Give(g[0])
		}
	}
	h.Gone = stays
	return point
}

// holds tells whether a reservation is from an era to another one.
func holds(held [api.MaxWork][Slots]int, from, to int) bool {
	for _, slots := range held {
		for _, now := range slots {
			if now >= from && now <= to {
				return true
			}
		}
	}
	return false
}
