package reader_test

import (
	"reflect"
	"slices"
	"testing"

	"underwood/api"
	"underwood/reader"
	"underwood/run"
	"underwood/sample"
	"underwood/trace"
	"underwood/wire"
)

const text = "cell x; stack s; func f(a) { s.push(a); x = x + s.pop(); return x; } func main() { spawn f(3); y = spawn f(4); return y; }"

func played(t *testing.T, script []api.Pick) (api.Code, api.Conf, api.State) {
	t.Helper()
	c := sample.Code(text)
	conf := sample.Conf(c, 3)
	s, err := run.Play(c, conf, script, 100000)
	if err != api.OK || s.Err != api.OK {
		t.Fatal(err, s.Err)
	}
	return c, conf, s
}

// P33.1
func TestNext(t *testing.T) {
	c := sample.Code(text)
	s, _ := run.Start(c, sample.Conf(c, 3))
	stepped, died := run.Step(s, 0), run.Die(s, 1)
	for i, x := range []struct {
		e    api.Event
		want api.State
		ok   bool
	}{
		{stepped.Events[0], stepped, true},
		{died.Events[0], died, true},
		{api.Event{}, run.Die(s, 0), true},
		{api.Event{Worker: 1}, s, false},
		{api.Event{Worker: 3, Seat: 3}, s, false},
		{api.Event{Worker: -1}, s, false},
	} {
		if got, ok := reader.Next(s, x.e); ok != x.ok || !reflect.DeepEqual(got, x.want) {
			t.Error(i, ok)
		}
	}
	for i, turn := range []func(e *api.Event){
		func(e *api.Event) { e.Worker = 1 }, func(e *api.Event) { e.Worker = 7 }, func(e *api.Event) { e.Seat++ }, func(e *api.Event) { e.Access.Kind++ }, func(e *api.Event) { e.Access.Cell++ }, func(e *api.Event) { e.Access.Old++ },
		func(e *api.Event) { e.Access.New++ }, func(e *api.Event) { e.Result.Val++ }, func(e *api.Event) { e.Result.Ok = !e.Result.Ok },
	} {
		e := stepped.Events[0]
		turn(&e)
		if got, ok := reader.Next(s, e); ok || !reflect.DeepEqual(got, s) {
			t.Error(i, ok)
		}
	}
	s.Over = true
	if got, ok := reader.Next(s, stepped.Events[0]); ok || !reflect.DeepEqual(got, s) {
		t.Error("behind the end")
	}
}

// P33.2
func TestRead(t *testing.T) {
	for seed := range 20 {
		c, conf, s := played(t, sample.Picks(sample.Dice(seed), 3, 20*seed))
		got, n, err := reader.Read(c, conf, trace.Bytes(s.Events))
		if err != api.OK || n != len(s.Events) || !reflect.DeepEqual(got, s) {
			t.Fatal(seed, n, err)
		}
		half := len(s.Events) / 2
		was, _ := run.Start(c, conf)
		for _, e := range s.Events[:half] {
			if e.Access.Kind == 0 {
				was = run.Die(was, e.Worker)
			} else {
				was = run.Step(was, e.Worker)
			}
		}
		got, n, err = reader.Read(c, conf, trace.Bytes(s.Events[:half]))
		if err != api.OK || n != half || !reflect.DeepEqual(got, was) {
			t.Fatal(seed, "a beginning", n, err)
		}
		more := slices.Clone(s.Events)
		more[half].Result.Val++
		got, n, err = reader.Read(c, conf, trace.Bytes(more))
		if err != api.ErrTrace || n != half || !reflect.DeepEqual(got, was) {
			t.Fatal(seed, "one event tells 1 more", n, err)
		}
		got, n, err = reader.Read(c, conf, trace.Bytes(append(slices.Clone(s.Events), s.Events[0])))
		if err != api.ErrTrace || n != len(s.Events) || !reflect.DeepEqual(got, s) {
			t.Fatal(seed, "behind the end", n, err)
		}
	}
	c, conf, _ := played(t, nil)
	start, _ := run.Start(c, conf)
	if got, n, err := reader.Read(c, conf, trace.Bytes(nil)); err != api.OK || n != 0 || !reflect.DeepEqual(got, start) {
		t.Error("no event", n, err)
	}
}

func TestReadWrong(t *testing.T) {
	c, conf, s := played(t, nil)
	for i, b := range [][]byte{nil, {1}, wire.Seal(wire.Nums([]int{1}))} {
		if got, n, err := reader.Read(c, api.Conf{}, b); err != api.ErrForm || n != 0 || !reflect.DeepEqual(got, api.State{}) {
			t.Error(i, n, err)
		}
	}
	if got, n, err := reader.Read(c, api.Conf{}, trace.Bytes(s.Events)); err != api.ErrArg || n != 0 || !reflect.DeepEqual(got, api.State{}) {
		t.Error(n, err)
	}
	if got, n, err := reader.Read(api.Code{}, conf, trace.Bytes(s.Events)); err != api.ErrArg || n != 0 || !reflect.DeepEqual(got, api.State{}) {
		t.Error(n, err)
	}
}

// P33.3: another access of the same worker is refused where it stands.
func TestFaults(t *testing.T) {
	c, conf, s := played(t, sample.Picks(sample.Dice(5), 3, 100))
	for k := 0; k < len(s.Events); k += 5 {
		for f := range 6 {
			l := slices.Clone(s.Events)
			e := &l[k]
			if e.Access.Kind == 0 {
				continue
			}
			switch f {
			case 0:
				e.Access.Kind = e.Access.Kind%5 + 1
			case 1:
				e.Access.Cell++
			case 2:
				e.Access.New++
			case 3:
				e.Result.Ok = !e.Result.Ok
			case 4:
				e.Seat++
			case 5:
				e.Access.Old--
			}
			if _, n, err := reader.Read(c, conf, trace.Bytes(l)); err != api.ErrTrace || n != k {
				t.Fatal(k, f, n, err)
			}
		}
	}
}
