package parse

import (
	"strconv"
	"strings"

	"underwood/api"
)

// How tightly expressions hold together.
const (
	asExpr = 1 // a comparison, or what follows
	asSum  = 2
	asProd = 3
	asPrim = 4
)

// printer lays the tokens of a program's text.
type printer struct {
	nodes []api.Node
	out   strings.Builder
	word  bool // whether a name or a number stands last
}

// Text is a program as the shortest text of which Of tells it.
func Text(p api.Prog) (text string) {
	if !tree(p) {
		return ""
	}
	defer func() {
		if recover() != nil { // a node that has fewer parts than its kind needs: no program that Of tells
			text = ""
		}
	}()
	r := &printer{nodes: p.Nodes}
	for _, d := range p.Decls {
		r.decl(d)
	}
	for _, f := range p.Funs {
		r.words("func", f.Name, "(")
		for i, a := range f.Args {
			r.comma(i)
			r.words(a)
		}
		r.words(")")
		r.block(f.Body)
	}
	return r.out.String()
}

// tree tells whether nodes are of nodes ahead of them, each once at most: so that going down them ends.
func tree(p api.Prog) bool {
	used := make([]bool, len(p.Nodes))
	for i, n := range p.Nodes {
		for _, k := range n.Of {
			if k < 0 || k >= i || used[k] {
				return false
			}
			used[k] = true
		}
	}
	for _, f := range p.Funs {
		if f.Body < 0 || f.Body >= len(used) || used[f.Body] {
			return false
		}
		used[f.Body] = true
	}
	return true
}

func wordlike(c byte) bool {
	return c >= 'a' && c <= 'z' || c >= 'A' && c <= 'Z' || c >= '0' && c <= '9' || c == '_'
}

// words lays tokens, with a blank where two would be one otherwise.
func (r *printer) words(texts ...string) {
	for _, s := range texts {
		if s == "" {
			continue
		}
		if r.word && wordlike(s[0]) {
			r.out.WriteByte(' ')
		}
		r.out.WriteString(s)
		r.word = wordlike(s[len(s)-1])
	}
}

func (r *printer) comma(i int) {
	if i > 0 {
		r.words(",")
	}
}

func (r *printer) decl(d api.Decl) {
	switch d.Kind {
	case api.KCell:
		r.words("cell", d.Name)
		if d.N != 0 {
			r.words("=", strconv.Itoa(d.N))
		}
	case api.KMap:
		r.words("map", d.Name)
	case api.KStack:
		r.words("stack", d.Name)
	case api.KChan:
		r.words("chan", d.Name)
	}
	r.words(";")
}

func (r *printer) block(k int) {
	r.words("{")
	for _, s := range r.nodes[k].Of {
		r.stmt(r.nodes[s])
	}
	r.words("}")
}

func (r *printer) stmt(n api.Node) {
	switch n.Kind {
	case api.NIf:
		r.words("if")
		r.expr(n.Of[0], asExpr)
		r.block(n.Of[1])
		if len(n.Of) > 2 {
			r.words("else")
			r.block(n.Of[2])
		}
		return
	case api.NWhile:
		r.words("while")
		r.expr(n.Of[0], asExpr)
		r.block(n.Of[1])
		return
	case api.NSync:
		r.words("sync")
	case api.NReturn:
		r.words("return")
		r.expr(n.Of[0], asExpr)
	case api.NAssert:
		r.words("assert")
		r.expr(n.Of[0], asExpr)
	case api.NDo:
		r.expr(n.Of[0], asPrim)
	case api.NSet:
		r.words(n.Name, "=")
		r.expr(n.Of[0], asExpr)
	case api.NSpawn, api.NPar:
		r.start(n)
	}
	r.words(";")
}

func (r *printer) start(n api.Node) {
	if n.Name != "" {
		r.words(n.Name, "=")
	}
	if n.Kind == api.NSpawn {
		r.words("spawn", n.Name2)
	} else {
		r.words("par", n.Name2)
	}
	r.args(n.Of)
}

func (r *printer) args(of []int) {
	r.words("(")
	for i, k := range of {
		r.comma(i)
		r.expr(k, asExpr)
	}
	r.words(")")
}

// expr lays an expression, with brackets where it holds less tightly than it has to.
func (r *printer) expr(k, tight int) {
	n := r.nodes[k]
	sign, own, left, right := shape(n.Kind)
	if own < tight {
		r.words("(")
		defer r.words(")")
	}
	switch n.Kind {
	case api.NNum:
		r.words(strconv.Itoa(n.N))
	case api.NName:
		r.words(n.Name)
	case api.NCall:
		r.words(n.Name, ".", n.Name2)
		r.args(n.Of)
	default:
		r.expr(n.Of[0], left)
		r.words(sign)
		r.expr(n.Of[1], right)
	}
}

// shape is an expression's sign, how tightly it holds, and how tightly what stands left and right of the sign has to.
func shape(kind int) (sign string, own, left, right int) {
	switch kind {
	case api.NLess:
		return "<", asExpr, asSum, asSum
	case api.NEq:
		return "==", asExpr, asSum, asSum
	case api.NAdd:
		return "+", asSum, asSum, asProd
	case api.NSub:
		return "-", asSum, asSum, asProd
	case api.NMul:
		return "*", asProd, asProd, asPrim
	}
	return "", asPrim, 0, 0
}
