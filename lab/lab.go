// Package lab is for tests: it runs programs of accesses on a memory, alone or many at once, and tells what they did.
package lab

import (
	"slices"
	"strconv"
	"strings"

	"underwood/api"
	"underwood/layout"
	"underwood/mem"
)

// Next is the form of all programs of accesses.
type Next func(l api.Layout, me int, gone [][2]int, op api.Op, log []api.Result) (api.Access, api.Out, bool)

// Memory is a memory of a layout in which accesses were done.
func Memory(l api.Layout, all ...api.Access) api.Mem {
	m, _, _ := mem.All(api.Mem{Cells: make([]int, l.Size)}, all)
	return m
}

// Name is what stands in a cell.
func Name(l api.Layout, cell int) string {
	if cell < 0 || cell >= l.Size {
		return "nowhere"
	}
	many := l.Conf.Seats
	for _, p := range []struct {
		name               string
		first, cells, from int
	}{
		{"node", l.Node, 8, 1}, {"chan", l.Chan, 2, 0}, {"stack", l.Stack, 1 + l.Conf.Slots, 0}, {"map", l.Map, 2 + l.Conf.Buckets, 0}, {"cell", l.Cell, 1, 0},
		{"task", l.Task, 4, 1}, {"ring", l.Ring, (l.Task - l.Ring) / many, 0}, {"deque", l.Deque, 3, 0}, {"resv", l.Resv, 3, 0}, {"owner", l.Owner, 1, 0}, {"alive", l.Alive, 1, 0},
		{"free", l.Free, 1, 0}, {"era", l.Era, 1, 0}, {"count", l.Count, 1, 0}, {"done", l.Done, 1, 0},
	} {
		if cell < p.first {
			continue
		}
		k := (cell-p.first)/p.cells + p.from
		if p.cells > 1 {
			return p.name + strconv.Itoa(k) + "." + strconv.Itoa((cell-p.first)%p.cells)
		}
		if p.first < l.Alive {
			return p.name
		}
		return p.name + strconv.Itoa(k)
	}
	return "nowhere"
}

// Text is an access, and whether it went.
func Text(l api.Layout, a api.Access, r api.Result) string {
	where := Name(l, a.Cell)
	switch a.Kind {
	case api.ALoad:
		return "load " + where
	case api.AStore:
		return "store " + where + " " + strconv.Itoa(a.New)
	case api.AAdd:
		return "add " + where + " " + strconv.Itoa(a.New)
	case api.ACas:
		text := "cas " + where + " " + strconv.Itoa(a.Old) + " " + strconv.Itoa(a.New)
		if !r.Ok {
			text += " no"
		}
		return text
	}
	return "kind " + strconv.Itoa(a.Kind)
}

// Alone runs an operation to its end; meddle, if there is one, turns the memory ahead of each access. Told are the accesses, the memory behind them, and what the operation tells.
func Alone(l api.Layout, m api.Mem, next Next, me int, gone [][2]int, op api.Op, meddle func(k int, m api.Mem)) ([]string, api.Mem, api.Out) {
	var log []api.Result
	var did []string
	m = api.Mem{Cells: slices.Clone(m.Cells)}
	for len(log) < 10000 {
		a, out, done := next(l, me, gone, op, log)
		if done {
			return did, m, out
		}
		if meddle != nil {
			meddle(len(log), m)
		}
		on, r, err := mem.Do(m, a)
		if err != api.OK {
			return append(did, "error "+strconv.Itoa(int(err))), m, api.Out{}
		}
		m = on
		log = append(log, r)
		did = append(did, Text(l, a, r))
	}
	return append(did, "no end"), m, api.Out{}
}

// Report is what a test is told by.
type Report interface {
	Helper()
	Errorf(format string, args ...any)
}

// Check holds accesses, and what an operation told, against what they should be.
func Check(t Report, did []string, want string, out, wantOut api.Out) {
	t.Helper()
	if Did(did) != Lines(want) {
		t.Errorf("did:\n%s\nwant:\n%s", Did(did), Lines(want))
	}
	if !SameOut(out, wantOut) {
		t.Errorf("told %v, want %v", out, wantOut)
	}
}

// SameOut tells whether two operations told the same.
func SameOut(a, b api.Out) bool {
	return a.Val == b.Val && a.Is == b.Is && a.Err == b.Err && a.Point == b.Point && slices.Equal(a.Gone, b.Gone)
}

// Did is accesses as lines, to be held against others.
func Did(l []string) string { return strings.Join(l, "\n") }

// Lines are a text's, without blanks about them and without empty ones.
func Lines(text string) string {
	var l []string
	for _, s := range strings.Split(text, "\n") {
		if s = strings.TrimSpace(s); s != "" {
			l = append(l, s)
		}
	}
	return Did(l)
}

// Dice is a row of numbers from 0 to n - 1 that hangs on its seed alone.
func Dice(seed int) func(n int) int {
	x := uint64(seed)*0x9E3779B97F4A7C15 + 0x1234567
	return func(n int) int {
		x ^= x << 13
		x ^= x >> 7
		x ^= x << 17
		return int(x>>11) % n
	}
}

// Small is a conf of so many seats, with room for what tests need.
func Small(seats int) api.Conf {
	return api.Conf{Seats: seats, Nodes: 40, Buckets: 4, Slots: (seats + 1) / 2, Tasks: 20, Cells: 2, Maps: 2, Stacks: 2, Chans: 2}
}

// Of is the layout of a conf that may be.
func Of(c api.Conf) api.Layout {
	l, err := layout.Of(c)
	if err != api.OK {
		panic("no layout")
	}
	return l
}
