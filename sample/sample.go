// Package sample is for tests: programs, and scripts by which they are run.
package sample

import (
	"underwood/api"
	"underwood/compile"
	"underwood/elide"
	"underwood/lab"
	"underwood/layout"
	"underwood/parse"
)

// Code is a text's code.
func Code(text string) api.Code {
	p, err := parse.Of(text)
	if err != api.OK {
		panic("no program: " + text)
	}
	c, err := compile.Of(p)
	if err != api.OK {
		panic("no code: " + text)
	}
	return c
}

// Conf is enough of all for a code on so many seats.
func Conf(c api.Code, seats int) api.Conf {
	conf, err := layout.For(c, elide.Run(c), seats)
	if err != api.OK {
		panic("no conf")
	}
	return conf
}

// Free are programs without races.
func Free() []string {
	return []string{
		`func main() { return 7; }`,
		`cell x = 3; func f(a) { x = x + a; return 5; } func main() { x = 1; a = spawn f(2); return a + x; }`,
		`func fib(n) { if n < 2 { return n; } a = spawn fib(n - 1); b = spawn fib(n - 2); return a + b; } func main() { x = spawn fib(5); assert x == 4; assert x == 5; return x; }`,
		`map m; func f(k) { m.put(k, k * k); x = m.get(k); assert x == k * k + 1; return x; } func main() { s = par f(0, 9); return s + m.get(8); }`,
		`map m; func f(k) { m.put(k, k); m.del(k); m.put(k, k + 7); } func g(k) { return m.get(k); } func main() { par f(0, 5); sync; y = par g(0, 5); return y; }`,
		`stack s; chan c; func f(a) { s.push(a); s.push(a + 1); c.send(s.pop()); } func main() { spawn f(3); sync; spawn f(5); sync; x = c.recv(); return x * 100 + c.recv(); }`,
		`chan a; chan b; func f(n) { i = 0; while i < n { a.send(i); i = i + 1; } } func g(n) { i = 0; while i < n { b.send(i * i); i = i + 1; } } func main() { spawn f(7); spawn g(8); sync; return a.recv() + b.recv() + a.recv(); }`,
		`cell x; cell y; func f() { x = 4; assert 0; } func g() { y = 5; assert 1; spawn h(); } func h() { assert 0; } func main() { spawn f(); spawn g(); sync; return x * y; }`,
	}
}

// Racy are programs with races.
func Racy() []string {
	return []string{
		`cell x; func f() { x = 2; } func main() { spawn f(); x = 1; sync; return x; }`,
		`stack s; func f(a) { s.push(a); return s.pop(); } func main() { x = par f(0, 7); return x; }`,
		`stack s; func f(a) { s.push(a); s.push(a); s.pop(); return s.pop(); } func main() { x = par f(0, 7); return x; }`,
		`chan c; func f(a) { c.send(a); c.send(a + 10); return c.recv(); } func main() { x = par f(0, 7); return x; }`,
		`map m; func f(k) { m.put(1, k); m.put(k, k); x = m.get(1); m.del(1); return x; } func main() { x = par f(0, 8); return x; }`,
		`map m; stack s; chan c; cell x; func f(k) { m.put(k * 3, x); s.push(k); c.send(s.pop()); x = x + c.recv(); m.del(k); } func main() { par f(0, 6); sync; return x; }`,
	}
}

// Picks is a script as dice say: with runs of one worker, stalls and deaths.
func Picks(dice func(n int) int, seats, many int) []api.Pick {
	var l []api.Pick
	for len(l) < many {
		w := dice(seats)
		switch dice(12) {
		case 0:
			l = append(l, api.Pick{Kind: api.PStall, A: w, B: dice(60)})
		case 1:
			if dice(6) == 0 {
				l = append(l, api.Pick{Kind: api.PDie, A: w})
			}
		default:
			for range 1 + dice(12) {
				l = append(l, api.Pick{Kind: api.PStep, A: w})
			}
		}
	}
	return l
}

// Dice is a row of numbers that hangs on its seed alone.
func Dice(seed int) func(n int) int { return lab.Dice(seed) }
