package check_test

import (
	"fmt"
	"slices"
	"strings"
	"testing"

	"underwood/api"
	"underwood/check"
	"underwood/parse"
)

func read(t *testing.T, text string) api.Prog {
	t.Helper()
	p, err := parse.Of(text)
	if err != api.OK {
		t.Fatalf("%q: %v", text, err)
	}
	return p
}

func num() api.Node                       { return api.Node{Kind: api.NNum} }
func of(kind int, places ...int) api.Node { return api.Node{Kind: kind, Of: places} }
func main1(nodes ...api.Node) api.Prog {
	return api.Prog{Funs: []api.Fun{{Name: "main", Body: len(nodes) - 1}}, Nodes: nodes}
}

// P6.1
func TestFormed(t *testing.T) {
	good := read(t, "cell c; func main() { x = 1 + c * 2 - (x < 1); y = m.get(x) + m.pop(); return m.get(2); if x == 1 { sync; } else { } while x { assert 1; } return 0; } func f() { m.get(1); spawn f(1, 2); par g(1, 2); if 1 { } }")
	if !check.Formed(good) || !check.Formed(api.Prog{}) {
		t.Error("what parse tells is formed")
	}
	for i, p := range []api.Prog{
		main1(num()),
		main1(of(api.NBlock), of(api.NBlock)),
		main1(num(), of(api.NBlock, 0)),
		main1(num(), of(api.NReturn, 0), of(api.NBlock, 1, 1)),
		main1(num(), of(api.NReturn, 0), of(api.NReturn, 0), of(api.NBlock, 1, 2)),
		main1(of(api.NReturn, 0), of(api.NBlock, 0)),
		main1(of(api.NCall, 0), of(api.NBlock)),
		main1(of(api.NReturn, 1), num(), of(api.NBlock, 0)),
		main1(of(api.NReturn, -1), of(api.NBlock, 0)),
		main1(of(api.NReturn), of(api.NBlock, 0)),
		main1(num(), num(), of(api.NReturn, 0, 1), of(api.NBlock, 2)),
		main1(api.Node{Kind: api.NNum, N: -1}, of(api.NReturn, 0), of(api.NBlock, 1)),
		main1(api.Node{Kind: api.NNum, N: api.Wrap}, of(api.NReturn, 0), of(api.NBlock, 1)),
		main1(num(), of(api.NSync, 0), of(api.NBlock, 1)),
		main1(num(), of(api.NName, 0), of(api.NReturn, 1), of(api.NBlock, 2)),
		main1(num(), of(api.NAdd, 0), of(api.NReturn, 1), of(api.NBlock, 2)),
		main1(of(api.NSync), of(api.NSet, 0), of(api.NBlock, 1)),
		main1(num(), of(api.NDo, 0), of(api.NBlock, 1)),
		main1(of(api.NCall), of(api.NBlock, 0)),
		main1(num(), of(api.NIf, 0), of(api.NBlock, 1)),
		main1(num(), num(), of(api.NIf, 0, 1), of(api.NBlock, 2)),
		main1(num(), of(api.NBlock), of(api.NBlock), of(api.NBlock), of(api.NIf, 0, 1, 2, 3), of(api.NBlock, 4)),
		main1(num(), of(api.NBlock), of(api.NBlock), of(api.NWhile, 0, 1, 2), of(api.NBlock, 3)),
		main1(of(api.NBlock), of(api.NWhile, 0, 0), of(api.NBlock, 1)),
		main1(num(), of(api.NPar, 0), of(api.NBlock, 1)),
		main1(of(api.NSync), of(api.NSpawn, 0), of(api.NBlock, 1)),
		main1(of(api.NBlock), of(api.NBlock, 0)),
		main1(of(0), of(api.NBlock, 0)),
		main1(of(19), of(api.NBlock, 0)),
		{Funs: []api.Fun{{Name: "main"}, {Name: "f"}}, Nodes: []api.Node{of(api.NBlock)}},
		{Funs: []api.Fun{{Name: "main", Body: 1}}, Nodes: []api.Node{of(api.NBlock)}},
		{Funs: []api.Fun{{Name: "main", Body: -1}}, Nodes: []api.Node{of(api.NBlock)}},
		{Funs: []api.Fun{{Name: "main"}}},
		{Nodes: []api.Node{of(api.NBlock)}},
	} {
		if check.Formed(p) || check.Why(p) != api.ErrArg || len(check.Locals(p, 0)) != 0 {
			t.Errorf("%d: %v is formed, or tells something", i, p)
		}
	}
}

// P6.2
func TestLocals(t *testing.T) {
	p := read(t, "cell c; map m; func main() { if y { y = x; } x = spawn f(z); c = 1; m = 2; w = par g(1, 2); spawn f(1); a = 1; y = 2; } func f(b, a) { c = a; b = 1; q = b; }")
	for fun, want := range map[int][]string{0: {"y", "x", "w", "a"}, 1: {"b", "a", "q"}, 2: nil, -1: nil} {
		if got := check.Locals(p, fun); !slices.Equal(got, want) {
			t.Errorf("Locals of %d: %v", fun, got)
		}
	}
}

// P6.3
func TestWhy(t *testing.T) {
	for text, want := range map[string]api.Errno{
		"func main() { }":                                                           api.OK,
		"cell c; func main() { c = x; }":                                            api.ErrName,
		"cell c; func main() { c = x; x = 1; }":                                     api.OK,
		"map m; func main() { m.push(1); }":                                         api.ErrType,
		"map m; func main() { m.get(1); m.put(1, 2); m.del(1); }":                   api.OK,
		"stack m; func main() { m.push(1); m.pop(); }":                              api.OK,
		"chan m; func main() { m.send(1); m.recv(); }":                              api.OK,
		"cell c; cell c; func main() { }":                                           api.ErrTwice,
		"cell c; map c; func main() { }":                                            api.ErrTwice,
		"func main() { } func main() { }":                                           api.ErrTwice,
		"func f(a, a) { } func main() { }":                                          api.ErrTwice,
		"stack c; func f(c) { } func main() { }":                                    api.ErrTwice,
		"func f() { }":                                                              api.ErrName,
		"":                                                                          api.ErrName,
		"func main() { spawn f(); }":                                                api.ErrName,
		"func main() { par f(1, 2); }":                                              api.ErrName,
		"func main() { m.get(1); }":                                                 api.ErrName,
		"func main() { x = 1; } func f() { y = x; }":                                api.ErrName,
		"map m; func main() { x = m; }":                                             api.ErrType,
		"map m; func main() { m = 1; }":                                             api.ErrType,
		"cell c; func main() { c.get(1); }":                                         api.ErrType,
		"cell c; func f() { } func main() { c = spawn f(); }":                       api.ErrType,
		"map m; func f(a) { } func main() { m = par f(1, 2); }":                     api.ErrType,
		"stack s; func main() { s.get(1); }":                                        api.ErrType,
		"chan s; func main() { s.pop(); }":                                          api.ErrType,
		"func main(a) { }":                                                          api.ErrMany,
		"func f(a) { } func main() { spawn f(); }":                                  api.ErrMany,
		"func f(a) { } func main() { spawn f(1, 2); }":                              api.ErrMany,
		"func f() { } func main() { par f(1, 2); }":                                 api.ErrMany,
		"func f(a, b) { } func main() { par f(1, 2); }":                             api.ErrMany,
		"map m; func main() { m.get(); }":                                           api.ErrMany,
		"map m; func main() { m.put(1); }":                                          api.ErrMany,
		"map m; func main() { m.del(1, 2); }":                                       api.ErrMany,
		"stack m; func main() { m.push(); }":                                        api.ErrMany,
		"stack m; func main() { m.pop(1); }":                                        api.ErrMany,
		"chan m; func main() { m.recv(1); }":                                        api.ErrMany,
		"func f(a) { } func main() { par f(1, 2); x = par f(3, 4); spawn main(); }": api.OK,
		// The first of several faults, wherever it stands.
		"map m; map m; func f() { x = y; m.push(1); }": api.ErrTwice,
		"map m; func main(a) { x = y; m.push(1); }":    api.ErrName,
		"map m; func main(a) { m.push(1); }":           api.ErrType,
	} {
		if got := check.Why(read(t, text)); got != want {
			t.Errorf("Why(%q) = %v, want %v", text, got, want)
		}
	}
}

func TestWhyByHand(t *testing.T) {
	body := []api.Node{of(api.NBlock)}
	main := []api.Fun{{Name: "main"}}
	for i, x := range []struct {
		p    api.Prog
		want api.Errno
	}{
		{api.Prog{Decls: []api.Decl{{Kind: 4, Name: "a"}}, Funs: main, Nodes: body}, api.ErrName},
		{api.Prog{Decls: []api.Decl{{Kind: -1, Name: "a"}}, Funs: main, Nodes: body}, api.ErrName},
		{api.Prog{Decls: []api.Decl{{Kind: api.KCell}}, Funs: main, Nodes: []api.Node{{Kind: api.NSpawn, Name2: "main"}, of(api.NBlock, 0)}}, api.ErrArg},
		{api.Prog{Decls: []api.Decl{{Kind: api.KCell}}, Funs: []api.Fun{{Name: "main", Body: 1}}, Nodes: []api.Node{{Kind: api.NSpawn, Name2: "main"}, of(api.NBlock, 0)}}, api.ErrType},
	} {
		if got := check.Why(x.p); got != x.want {
			t.Errorf("%d: %v", i, got)
		}
	}
}

// many is a text so many times, with a number put in.
func many(n int, form string) string {
	var b strings.Builder
	for i := range n {
		b.WriteString(strings.ReplaceAll(form, "#", fmt.Sprint(i)))
	}
	return b.String()
}

func TestWhyBounds(t *testing.T) {
	args := func(n int) string { return strings.TrimSuffix(many(n, "a#,"), ",") }
	ones := func(n int) string { return strings.TrimSuffix(many(n, "1,"), ",") }
	for _, x := range []struct {
		most int
		text func(n int) string
	}{
		{16, func(n int) string { return many(n-1, "func f#() {}") + "func main() {}" }},
		{16, func(n int) string { return many(n, "cell c#;") + "func main() {}" }},
		{8, func(n int) string { return many(n, "map c#;") + "func main() {}" }},
		{8, func(n int) string { return many(n, "stack c#;") + "func main() {}" }},
		{8, func(n int) string { return many(n, "chan c#;") + "func main() {}" }},
		{16, func(n int) string { return "func main() {" + many(n, "x# = 1;") + "}" }},
		{16, func(n int) string { return "func f(" + args(n) + ") { a0 = 1; } func main() {}" }},
		{16, func(n int) string { return "func f(a) { " + many(n-1, "x# = 1;") + "} func main() {}" }},
	} {
		if got := check.Why(read(t, x.text(x.most))); got != api.OK {
			t.Errorf("%q: %v", x.text(x.most), got)
		}
		if got := check.Why(read(t, x.text(x.most+1))); got != api.ErrBound {
			t.Errorf("%q: %v", x.text(x.most+1), got)
		}
	}
	if got := check.Why(read(t, "func f(a) {} func main() { spawn f("+ones(17)+"); }")); got != api.ErrBound {
		t.Error("a spawn of 17 arguments", got)
	}
	if got := check.Why(read(t, "func f(a) {} func main() { spawn f("+ones(16)+"); }")); got != api.ErrMany {
		t.Error("a spawn of 16 arguments", got)
	}
}
