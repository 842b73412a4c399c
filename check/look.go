package check

import (
	"slices"

	"underwood/api"
)

// look is a program that is formed, with its names.
type look struct {
	p      api.Prog
	things map[string]int // a thing's kind
	funs   map[string]int // a function's place
}

func newLook(p api.Prog) look {
	l := look{p: p, things: map[string]int{}, funs: map[string]int{}}
	for _, d := range p.Decls {
		if _, ok := l.things[d.Name]; !ok {
			l.things[d.Name] = d.Kind
		}
	}
	for i, f := range p.Funs {
		if _, ok := l.funs[f.Name]; !ok {
			l.funs[f.Name] = i
		}
	}
	return l
}

// nodes are a function's, by their places.
func (l look) nodes(fun int) []api.Node {
	places := []int{l.p.Funs[fun].Body}
	for i := 0; i < len(places); i++ {
		places = append(places, l.p.Nodes[places[i]].Of...)
	}
	slices.Sort(places)
	nodes := make([]api.Node, len(places))
	for i, k := range places {
		nodes[i] = l.p.Nodes[k]
	}
	return nodes
}

func (l look) locals(fun int) []string {
	names := slices.Clone(l.p.Funs[fun].Args)
	known := map[string]bool{"": true}
	for _, a := range names {
		known[a] = true
	}
	for _, n := range l.nodes(fun) {
		if n.Kind != api.NSet && n.Kind != api.NSpawn && n.Kind != api.NPar || known[n.Name] {
			continue
		}
		if _, ok := l.things[n.Name]; !ok {
			known[n.Name] = true
			names = append(names, n.Name)
		}
	}
	return names
}

// bound tells whether there is too much of something.
func (l look) bound() bool {
	many := map[int]int{}
	for _, d := range l.p.Decls {
		many[d.Kind]++
	}
	if len(l.p.Funs) > api.MaxFun || many[api.KCell] > api.MaxCell {
		return true
	}
	if many[api.KMap] > api.MaxObj || many[api.KStack] > api.MaxObj || many[api.KChan] > api.MaxObj {
		return true
	}
	for i := range l.p.Funs {
		if len(l.locals(i)) > api.MaxLocal {
			return true
		}
	}
	return slices.ContainsFunc(l.p.Nodes, func(n api.Node) bool {
		return n.Kind == api.NSpawn && len(n.Of) > api.MaxLocal
	})
}

// twice tells whether a name stands for two.
func (l look) twice() bool {
	if len(l.things) < len(l.p.Decls) || len(l.funs) < len(l.p.Funs) {
		return true
	}
	for _, f := range l.p.Funs {
		args := map[string]bool{}
		for _, a := range f.Args {
			if _, ok := l.things[a]; ok || args[a] {
				return true
			}
			args[a] = true
		}
	}
	return false
}

// unknown tells whether there is a name that there is not.
func (l look) unknown() bool {
	if _, ok := l.funs["main"]; !ok {
		return true
	}
	for _, d := range l.p.Decls {
		if d.Kind < api.KCell || d.Kind > api.KChan {
			return true
		}
	}
	for i := range l.p.Funs {
		locals := map[string]bool{}
		for _, s := range l.locals(i) {
			locals[s] = true
		}
		for _, n := range l.nodes(i) {
			if l.nodeUnknown(n, locals) {
				return true
			}
		}
	}
	return false
}

func (l look) nodeUnknown(n api.Node, locals map[string]bool) bool {
	_, thing := l.things[n.Name]
	switch n.Kind {
	case api.NSpawn, api.NPar:
		_, ok := l.funs[n.Name2]
		return !ok
	case api.NCall:
		return !thing
	case api.NName:
		return !thing && !locals[n.Name]
	}
	return false
}

// otherKind tells whether a thing is used as one of another kind.
func (l look) otherKind() bool {
	return slices.ContainsFunc(l.p.Nodes, func(n api.Node) bool {
		kind, thing := l.things[n.Name]
		switch n.Kind {
		case api.NName, api.NSet:
			return thing && kind != api.KCell
		case api.NSpawn, api.NPar:
			return thing
		case api.NCall:
			return kind == api.KCell || arguments(kind, n.Name2) < 0
		}
		return false
	})
}

// many tells whether something is given another number of arguments.
func (l look) many() bool {
	if len(l.p.Funs[l.funs["main"]].Args) > 0 {
		return true
	}
	return slices.ContainsFunc(l.p.Nodes, func(n api.Node) bool {
		switch n.Kind {
		case api.NSpawn:
			return len(n.Of) != len(l.p.Funs[l.funs[n.Name2]].Args)
		case api.NPar:
			return len(l.p.Funs[l.funs[n.Name2]].Args) != 1
		case api.NCall:
			return len(n.Of) != arguments(l.things[n.Name], n.Name2)
		}
		return false
	})
}

// arguments is how many an operation of things of a kind takes; -1, if they have none of that name.
func arguments(kind int, name string) int {
	switch kind {
	case api.KMap:
		switch name {
		case "get", "del":
			return 1
		case "put":
			return 2
		}
	case api.KStack:
		switch name {
		case "push":
			return 1
		case "pop":
			return 0
		}
	case api.KChan:
		switch name {
		case "send":
			return 1
		case "recv":
			return 0
		}
	}
	return -1
}
