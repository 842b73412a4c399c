// Package chain goes through nodes of which each leads to the next one, in a memory that may be any.
package chain

import "underwood/api"

// Has is what a cell of a memory has; 0, if it is not there.
func Has(m api.Mem, cell int) int {
	if cell < 0 || cell >= len(m.Cells) {
		return 0
	}
	return m.Cells[cell]
}

// Nodes are the nodes from the first one on, as long as there is such a node, and it was not told yet.
func Nodes(l api.Layout, first int, next func(n int) int) []int {
	var nodes []int
	var told [api.MaxNode + 1]bool
	for n := first; n >= 1 && n <= min(l.Conf.Nodes, api.MaxNode) && !told[n]; n = next(n) {
		told[n] = true
		nodes = append(nodes, n)
	}
	return nodes
}
