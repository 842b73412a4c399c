package tool

import (
	"slices"
	"strconv"
	"strings"

	"underwood/api"
	"underwood/bound"
	"underwood/judge"
	"underwood/layout"
	"underwood/parse"
	"underwood/race"
	"underwood/reader"
	"underwood/run"
	"underwood/script"
	"underwood/trace"
)

const (
	mostSeats  = 8
	mostEvents = 100000
	mostDigits = 7
)

// commands are what they do with the words behind them; no: these are not words of theirs.
func (d *desk) commands() map[string]func(words []string) bool {
	return map[string]func(words []string) bool{
		"seats":  d.number(1, mostSeats, func(n int) { d.seats = n }),
		"most":   d.number(0, mostEvents, func(n int) { d.most = n }),
		"script": d.script,
		"text":   alone(func() { d.line("text:", parse.Text(d.prog)) }),
		"elide":  alone(func() { d.shape(run.Of(d.elided)) }),
		"race":   alone(d.race),
		"run":    alone(d.run),
		"shape":  alone(d.ofRun("shape:", func(s api.State) { d.shape(run.Shape(s)) })),
		"same":   alone(d.ofRun("same:", d.same)),
		"judge":  alone(d.ofRun("judge:", d.judge)),
		"trace":  alone(d.ofRun("trace:", d.trace)),
		"bound":  alone(d.bound),
	}
}

// alone is a command without words behind it.
func alone(does func()) func(words []string) bool {
	return func(words []string) bool {
		if len(words) > 0 {
			return false
		}
		does()
		return true
	}
}

// number is a command that sets a number from low to high.
func (d *desk) number(low, high int, set func(n int)) func(words []string) bool {
	return func(words []string) bool {
		if len(words) != 1 || len(words[0]) > mostDigits || strings.Trim(words[0], "0123456789") != "" {
			return false
		}
		n, err := strconv.Atoi(words[0])
		if err != nil || n < low || n > high {
			return false
		}
		set(n)
		d.state = nil
		return true
	}
}

func (d *desk) script(words []string) bool {
	picks, err := script.Parse(strings.Join(words, " "))
	if err != api.OK {
		d.line("script:", Name(err))
		return true
	}
	d.picks, d.state = picks, nil
	return true
}

// ofRun is a command that needs a run.
func (d *desk) ofRun(word string, does func(s api.State)) func() {
	return func() {
		if d.state == nil {
			d.line(word, "none")
			return
		}
		does(*d.state)
	}
}

// stuck tells of an elision that has an error.
func (d *desk) stuck(word string) bool {
	if d.elided.Err != api.OK {
		d.line(word, Name(d.elided.Err))
	}
	return d.elided.Err != api.OK
}

func yes(is bool) string {
	if is {
		return "yes"
	}
	return "no"
}

func (d *desk) race() {
	if d.stuck("race:") {
		return
	}
	r, err := race.Find(d.elided)
	switch err {
	case api.OK:
		u := d.elided.Uses[r.One]
		kind, name := d.thing(u.Thing, u.Obj)
		d.line("race:", strconv.Itoa(r.One), strconv.Itoa(r.Two), kind, name)
	default:
		d.line("race:", Name(err))
	}
}

// kindName is what a kind of things is called.
func kindName(kind int) string {
	return [...]string{api.KCell: "cell", api.KMap: "map", api.KStack: "stack", api.KChan: "chan"}[kind]
}

// thing is what a thing's kind is called, and its name.
func (d *desk) thing(kind, i int) (string, string) {
	for _, x := range d.prog.Decls {
		if x.Kind == kind {
			if i == 0 {
				return kindName(kind), x.Name
			}
			i--
		}
	}
	return kindName(kind), ""
}

func (d *desk) run() {
	d.state = nil
	if d.stuck("run:") {
		return
	}
	conf, err := layout.For(d.code, d.elided, d.seats)
	if err != api.OK {
		d.line("run:", Name(err))
		return
	}
	s, err := run.Play(d.code, conf, d.picks, d.most)
	if err != api.OK {
		d.line("run:", Name(err))
		return
	}
	d.state = &s
	d.line("run:", strconv.Itoa(len(s.Events)), "events,", Name(s.Err))
}

func (d *desk) same(s api.State) {
	d.line("same:", yes(run.Same(run.Shape(s), run.Of(d.elided))))
}

func (d *desk) judge(s api.State) {
	d.line("judge:", yes(judge.Objects(s)), yes(judge.Once(s)), yes(judge.Nodes(s)))
}

func (d *desk) trace(s api.State) {
	b := trace.Bytes(s.Events)
	again, _, err := reader.Read(d.code, s.Layout.Conf, b)
	d.line("trace:", strconv.Itoa(len(b)), "bytes,", yes(err == api.OK && slices.Equal(again.Events, s.Events)))
}

func (d *desk) bound() {
	if d.stuck("bound:") {
		return
	}
	conf, _ := layout.For(d.code, d.elided, d.seats)
	var words []string
	for _, n := range []int{bound.Steps(conf, d.elided, len(d.picks)), bound.Work(d.elided), bound.Span(d.elided)} {
		words = append(words, strconv.Itoa(n))
	}
	d.line("bound:", words...)
}
