package parse_test

import (
	"reflect"
	"strings"
	"testing"

	"underwood/api"
	"underwood/lex"
	"underwood/parse"
)

// P5.1
func TestDepth(t *testing.T) {
	for text, want := range map[string]int{"": 0, "a": 0, "(": 1, ")": 0, ")(": 0, "(){": 1, "({)}": 2, ")))(((((": 2, "f(a){(b)}": 2} {
		l, err := lex.Words(text)
		if got := parse.Depth(l); got != want || err != api.OK {
			t.Errorf("Depth(%q) = %d", text, got)
		}
	}
}

func one(kind, of int) api.Node     { return api.Node{Kind: kind, Of: []int{of}} }
func two(kind, a, b int) api.Node   { return api.Node{Kind: kind, Of: []int{a, b}} }
func num(n int) api.Node            { return api.Node{Kind: api.NNum, N: n} }
func name(s string) api.Node        { return api.Node{Kind: api.NName, Name: s} }
func set(s string, of int) api.Node { return api.Node{Kind: api.NSet, Name: s, Of: []int{of}} }
func block(of ...int) api.Node      { return api.Node{Kind: api.NBlock, Of: of} }
func call(o, f string, of ...int) api.Node {
	return api.Node{Kind: api.NCall, Name: o, Name2: f, Of: of}
}

// like is the same, where a list without elements may be nil or not.
func like(a, b api.Prog) bool {
	clean := func(p api.Prog) api.Prog {
		q := api.Prog{Decls: append([]api.Decl{}, p.Decls...)}
		for _, f := range p.Funs {
			q.Funs = append(q.Funs, api.Fun{Name: f.Name, Args: append([]string{}, f.Args...), Body: f.Body})
		}
		for _, n := range p.Nodes {
			n.Of = append([]int{}, n.Of...)
			q.Nodes = append(q.Nodes, n)
		}
		return q
	}
	return reflect.DeepEqual(clean(a), clean(b))
}

// P5.2
func TestNodes(t *testing.T) {
	for text, want := range map[string][]api.Node{
		"":                                {block()},
		"x = 1 + 2 * 3;":                  {num(1), num(2), num(3), two(api.NMul, 1, 2), two(api.NAdd, 0, 3), set("x", 4), block(5)},
		"x = a - b - c;":                  {name("a"), name("b"), two(api.NSub, 0, 1), name("c"), two(api.NSub, 2, 3), set("x", 4), block(5)},
		"x = a * b * c;":                  {name("a"), name("b"), two(api.NMul, 0, 1), name("c"), two(api.NMul, 2, 3), set("x", 4), block(5)},
		"x = a - (b - c);":                {name("a"), name("b"), name("c"), two(api.NSub, 1, 2), two(api.NSub, 0, 3), set("x", 4), block(5)},
		"return ((1)) < 2 + 3;":           {num(1), num(2), num(3), two(api.NAdd, 1, 2), two(api.NLess, 0, 3), one(api.NReturn, 4), block(5)},
		"assert (1 < 2) == m.pop();":      {num(1), num(2), two(api.NLess, 0, 1), call("m", "pop"), two(api.NEq, 2, 3), one(api.NAssert, 4), block(5)},
		"m.put(1, x);":                    {num(1), name("x"), call("m", "put", 0, 1), one(api.NDo, 2), block(3)},
		"spawn f(); y = spawn f(1);":      {{Kind: api.NSpawn, Name2: "f"}, num(1), {Kind: api.NSpawn, Name: "y", Name2: "f", Of: []int{1}}, block(0, 2)},
		"par f(1, 2); y = par g(y, 3);":   {num(1), num(2), {Kind: api.NPar, Name2: "f", Of: []int{0, 1}}, name("y"), num(3), {Kind: api.NPar, Name: "y", Name2: "g", Of: []int{3, 4}}, block(2, 5)},
		"if x { sync; } else { } if 1 {}": {name("x"), {Kind: api.NSync}, block(1), block(), {Kind: api.NIf, Of: []int{0, 2, 3}}, num(1), block(), two(api.NIf, 5, 6), block(4, 7)},
		"while 0 { x = 1; y = 2; }":       {num(0), num(1), set("x", 1), num(2), set("y", 3), block(2, 4), two(api.NWhile, 0, 5), block(6)},
	} {
		p, err := parse.Of("func main() { " + text + " }")
		want := api.Prog{Funs: []api.Fun{{Name: "main", Body: len(want) - 1}}, Nodes: want}
		if err != api.OK || !like(p, want) {
			t.Errorf("%q: %v %v", text, p, err)
		}
	}
}

func TestPrograms(t *testing.T) {
	p, err := parse.Of("cell a = 7; map a; stack s; chan c; cell b; func f(x, y) { } func main() {}")
	want := api.Prog{
		Decls: []api.Decl{{Kind: api.KCell, Name: "a", N: 7}, {Kind: api.KMap, Name: "a"}, {Kind: api.KStack, Name: "s"}, {Kind: api.KChan, Name: "c"}, {Kind: api.KCell, Name: "b"}},
		Funs:  []api.Fun{{Name: "f", Args: []string{"x", "y"}}, {Name: "main", Body: 1}},
		Nodes: []api.Node{block(), block()},
	}
	if err != api.OK || !like(p, want) {
		t.Error(p, err)
	}
	if p, err := parse.Of(" "); err != api.OK || !like(p, api.Prog{}) {
		t.Error("a program of nothing", p, err)
	}
}

func TestWrong(t *testing.T) {
	deep := func(n int) string {
		return "func main() { x = " + strings.Repeat("(", n) + "1" + strings.Repeat(")", n) + "; }"
	}
	if p, err := parse.Of(deep(39)); err != api.OK || len(p.Nodes) != 3 {
		t.Error("brackets of depth 40", p, err)
	}
	for text, want := range map[string]api.Errno{
		deep(40):                      api.ErrBound,
		strings.Repeat("(", 41):       api.ErrBound,
		strings.Repeat("{", 41) + "?": api.ErrForm,
		strings.Repeat(" ", 4001):     api.ErrBound,
		"07":                          api.ErrForm,
		"x":                           api.ErrForm,
		"cell;":                       api.ErrForm,
		"cell x":                      api.ErrForm,
		"cell x = y;":                 api.ErrForm,
		"map m = 1;":                  api.ErrForm,
		"cell if;":                    api.ErrForm,
		"func main() {} cell x;":      api.ErrForm,
		"func main() {":               api.ErrForm,
		"func main() {}}":             api.ErrForm,
		"func main(,) {}":             api.ErrForm,
		"func main(a,) {}":            api.ErrForm,
		"func main(a b) {}":           api.ErrForm,
		"func main(1) {}":             api.ErrForm,
		"func () {}":                  api.ErrForm,
		"func main()":                 api.ErrForm,
	} {
		if p, err := parse.Of(text); err != want || !like(p, api.Prog{}) {
			t.Errorf("Of(%.30q) = %v %v", text, p, err)
		}
	}
	for _, s := range []string{
		"x = 1", "x = ;", "x;", "1;", "x = 1 < 2 < 3;", "x = 1 == 2 < 3;", "x = (1;", "x = 1);", "x = + 1;", "x = 1 +;", "x = - 1;",
		"sync", "sync();", "if { }", "if 1 x = 1;", "else { }", "if 1 { } else if 2 { }", "while { }", "return;", "assert;", ";", "{ }",
		"spawn f;", "spawn f(1,);", "spawn f(1 2);", "x = spawn;", "par f(1);", "par f(1, 2, 3);", "par f();", "x = 1 + spawn f();",
		"m.pop()", "m.pop;", "m.();", "m.map();", "map.get(1);", "m.get(1) = 2;", "x = m.get;", "x = while;", "func = 1;", "x = f();", "f();", "x == 1;",
	} {
		if p, err := parse.Of("func main() { " + s + " }"); err != api.ErrForm || !like(p, api.Prog{}) {
			t.Errorf("Of(%q) = %v %v", s, p, err)
		}
	}
}

// What ends in the midst of something is no program.
func TestBeginnings(t *testing.T) {
	text := "cell c = 7; map m; func f(a, b) { x = (a + 1) * b == c - 2; y = spawn f(1, x); spawn f(2, 3); z = par g(1, 2); if x < 1 { sync; } else { while y { return 1; } } m.put(1, m.get(2)); assert x; }"
	l, _ := lex.Words(text)
	for n := range l {
		_, err := parse.Of(lex.Show(l[:n]))
		if whole := n == 0 || n == 5 || n == 8; whole != (err == api.OK) || !whole && err != api.ErrForm {
			t.Error(lex.Show(l[:n]), err)
		}
	}
}

// P5.3, P5.4
func TestText(t *testing.T) {
	for text, want := range map[string]string{
		"": "",
		" cell  a = 0 ; cell b = 7; map m; stack s; chan c; func main ( ) { } ":                                  "cell a;cell b=7;map m;stack s;chan c;func main(){}",
		"func f(a, b) { return a; } func main() { }":                                                             "func f(a,b){return a;}func main(){}",
		"func main() { x = ((1) + 2) + 3; }":                                                                     "func main(){x=1+2+3;}",
		"func main() { x = 1 + (2 + 3); }":                                                                       "func main(){x=1+(2+3);}",
		"func main() { x = 1 - (2 - 3); }":                                                                       "func main(){x=1-(2-3);}",
		"func main() { x = (1 + 2) * (3 * 4); }":                                                                 "func main(){x=(1+2)*(3*4);}",
		"func main() { x = (1 * 2) * 3 + (4 * 5); }":                                                             "func main(){x=1*2*3+4*5;}",
		"func main() { x = (1 < 2) == (3 + 4); }":                                                                "func main(){x=(1<2)==3+4;}",
		"func main() { x = (1 < 2) + 3 < (4 == 5); }":                                                            "func main(){x=(1<2)+3<(4==5);}",
		"func main() { if x { } if z { A = Z; } z9 = spawn Z(A, a9, 10, 9, 0); return z; return Z; return a_; }": "func main(){if x{}if z{A=Z;}z9=spawn Z(A,a9,10,9,0);return z;return Z;return a_;}",
		"func main() { return A; return 0; return 9; return a; par A(z, 1); }":                                   "func main(){return A;return 0;return 9;return a;par A(z,1);}",
		"func A(z) { return (A); } func Z(a) { }":                                                                "func A(z){return A;}func Z(a){}",
		"func main() { return (1); return (1 + 2) * 3; }":                                                        "func main(){return 1;return(1+2)*3;}",
		"func main() { if (x) { sync; } else { } while (1 < 2) { } assert 1; }":                                  "func main(){if x{sync;}else{}while 1<2{}assert 1;}",
		"func main() { spawn f ( (1) , 2 ) ; y = par f(1, (m.get(1))); m.put(1, (2)); }":                         "func main(){spawn f(1,2);y=par f(1,m.get(1));m.put(1,2);}",
	} {
		p, err := parse.Of(text)
		if err != api.OK {
			t.Errorf("Of(%q): %v", text, err)
			continue
		}
		got := parse.Text(p)
		if got != want {
			t.Errorf("Text of %q: %q", text, got)
		}
		again, err := parse.Of(got)
		if err != api.OK || !like(again, p) || len(got) > len(text) {
			t.Errorf("%q: another program, or longer", got)
		}
	}
}

// Each expression of two signs, with brackets either way, is written as itself.
func TestTextOfExpressions(t *testing.T) {
	signs := []string{"<", "==", "+", "-", "*"}
	for _, a := range signs {
		for _, b := range signs {
			for _, e := range []string{"(1" + a + "2)" + b + "3", "1" + a + "(2" + b + "3)"} {
				p, _ := parse.Of("func main(){x=" + e + ";}")
				text := parse.Text(p)
				again, err := parse.Of(text)
				if err != api.OK || !like(p, again) {
					t.Errorf("%q: %q", e, text)
				}
				bare, err := parse.Of("func main(){x=1" + a + "2" + b + "3;}")
				if short := err == api.OK && like(bare, p); short != !strings.Contains(text[12:], "(") {
					t.Errorf("%q: %q has brackets that it does not need, or lacks them", e, text)
				}
			}
		}
	}
}
