package tool

import (
	"strconv"
	"strings"

	"underwood/api"
)

// shape puts a shape's lines.
func (d *desk) shape(s api.Shape) {
	if s.Err != api.OK {
		d.line("value:", Name(s.Err))
		return
	}
	d.line("value:", strconv.Itoa(s.Value))
	var next [api.KChan + 1]int // of each kind the first one that wasn't told yet
	for _, x := range d.prog.Decls {
		i := next[x.Kind]
		next[x.Kind]++
		d.line(kindName(x.Kind), append([]string{x.Name}, has(s, x.Kind, i)...)...)
	}
	d.line("tasks:", strconv.Itoa(s.Tasks))
	if len(s.Fails) > 0 {
		var paths []string
		for _, p := range s.Fails {
			paths = append(paths, path(p))
		}
		d.line("fails:", paths...)
	}
}

// has is what a thing has, by words.
func has(s api.Shape, kind, i int) []string {
	if kind == api.KCell {
		return []string{strconv.Itoa(s.Cells[i])}
	}
	c := [...][]api.Content{api.KMap: s.Maps, api.KStack: s.Stack, api.KChan: s.Chans}[kind][i]
	var words []string
	for k, v := range c.Vals {
		word := strconv.Itoa(v)
		if kind == api.KMap {
			word = strconv.Itoa(c.Keys[k]) + ":" + word
		}
		words = append(words, word)
	}
	return words
}

// path is a task's path as a word.
func path(p []int) string {
	if len(p) == 0 {
		return "."
	}
	var b strings.Builder
	for _, n := range p {
		b.WriteByte('.')
		b.WriteString(strconv.Itoa(n))
	}
	return b.String()
}
