package script_test

import (
	"slices"
	"strings"
	"testing"

	"underwood/api"
	"underwood/lab"
	"underwood/script"
)

func step(a int) api.Pick     { return api.Pick{Kind: api.PStep, A: a} }
func stall(a, b int) api.Pick { return api.Pick{Kind: api.PStall, A: a, B: b} }
func die(a int) api.Pick      { return api.Pick{Kind: api.PDie, A: a} }

// P29.1
func TestRight(t *testing.T) {
	for i, x := range []struct {
		seats int
		p     api.Pick
		want  bool
	}{
		{2, step(0), true}, {2, step(1), true}, {2, step(2), false}, {2, step(-1), false}, {0, step(0), false}, {2, api.Pick{Kind: api.PStep, B: 1}, false},
		{2, stall(1, 0), true}, {2, stall(1, api.MaxStep), true}, {2, stall(1, api.MaxStep+1), false}, {2, stall(1, -1), false}, {2, stall(2, 1), false},
		{2, die(1), true}, {2, api.Pick{Kind: api.PDie, B: 1}, false}, {2, die(-1), false}, {2, api.Pick{}, false}, {2, api.Pick{Kind: 4}, false}, {100, step(99), true},
	} {
		if script.Right(x.seats, x.p) != x.want {
			t.Error(i)
		}
	}
}

// P29.2
func TestPlain(t *testing.T) {
	for text, want := range map[string]string{
		"":                      "",
		"0x2 1~2 1 0 1 0! 0 1!": "0x3 1 0!",
		"0 1 0 1":               "0 1 0 1",
		"1~0 1 1":               "1x2",
		"1~1 1 1":               "1",
		"1~1 0 1":               "0 1",
		"1~3 1~1 0 1 1":         "0 1",
		"1~1 1~3 0 1 0 1":       "0x2 1",
		"1~1 1~3 0 1 0 1 1":     "0x2 1x2",
		"1~2 2 2 2 2 1":         "",
		"1~2 1~2 1 1 1":         "1",
		"1~5 1! 1":              "1!",
		"0! 1! 1":               "0! 1",
		"0! 0! 0 1":             "0! 1",
		"0~9 0! 1~9 1! 0 1":     "0!",
		"1! 0! 1 0":             "1! 0",
	} {
		l, err := script.Parse(text)
		if err != api.OK {
			t.Fatal(text, err)
		}
		if got := script.Text(script.Plain(2, l)); got != want {
			t.Errorf("Plain of %q: %q, want %q", text, got, want)
		}
	}
	if got := script.Plain(2, []api.Pick{stall(1, 1), {Kind: api.PStep, A: 0, B: 7}, step(1), step(1)}); !slices.Equal(got, []api.Pick{step(1)}) {
		t.Error("what isn't right counts for no stall", got)
	}
	if got := script.Plain(1, []api.Pick{die(0), step(0)}); !slices.Equal(got, []api.Pick{step(0)}) {
		t.Error("the only one", got)
	}
	if got := script.Plain(0, []api.Pick{step(0), die(0)}); len(got) != 0 {
		t.Error("no seats", got)
	}
	if got := script.Plain(3, []api.Pick{die(2), die(0), die(1), step(1)}); !slices.Equal(got, []api.Pick{die(2), die(0), step(1)}) {
		t.Error("the last one", got)
	}
}

// P29.3
func TestNext(t *testing.T) {
	t3 := []bool{true, true, true}
	mid := []bool{false, true, false}
	for i, x := range []struct {
		alive []bool
		last  int
		want  int
	}{
		{t3, -1, 0}, {t3, 0, 1}, {t3, 1, 2}, {t3, 2, 0}, {t3, 3, 0}, {t3, -9, 0}, {t3, 1 << 62, 0},
		{mid, 0, 1}, {mid, 1, 1}, {mid, 2, 1}, {mid, -1, 1}, {[]bool{true, false, true}, 0, 2}, {[]bool{true, false, true}, 2, 0}, {[]bool{true, false, true}, 1, 2},
		{nil, 0, -1}, {[]bool{false, false}, 0, -1}, {[]bool{false, false}, -1, -1}, {[]bool{true}, 0, 0},
	} {
		if got := script.Next(x.alive, x.last); got != x.want {
			t.Error(i, got)
		}
	}
}

// P29.4
func TestText(t *testing.T) {
	l := []api.Pick{step(0), step(0), step(1), step(0), stall(3, 12), stall(3, 12), step(7), step(7), step(7), die(2), die(2)}
	want := "0x2 1 0 3~12 3~12 7x3 2! 2!"
	if got := script.Text(l); got != want {
		t.Error(got)
	}
	if got, err := script.Parse(want); err != api.OK || !slices.Equal(got, l) {
		t.Error(got, err)
	}
	if script.Text(nil) != "" {
		t.Error("no picks")
	}
}

func TestParse(t *testing.T) {
	for text, want := range map[string][]api.Pick{
		"":           nil,
		" \t\n":      nil,
		" 0 \n\t1! ": {step(0), die(1)},
		"7x1 0~0":    {step(7), stall(0, 0)},
		"0~1048576":  {stall(0, api.MaxStep)},
		"1x2\n1x2":   {step(1), step(1), step(1), step(1)},
	} {
		if got, err := script.Parse(text); err != api.OK || !slices.Equal(got, want) {
			t.Errorf("%q: %v %v", text, got, err)
		}
	}
	for _, text := range []string{
		"8", "-1", "00", "01", "x", "x2", "0x", "0x0", "0x02", "0x12345678", "0~", "0~1048577", "0~00", "0~12345678", "0~-1", "!", "0!!", "0!1", "0x2!", "0~2x3", "0 x2", "0y2", "0xx2", "0x2x", "a", "0,1", "0\r", "0\x001", "0é", "é", "٣", "0~٣", "0\xff", "10", "12345678", "0!x",
		strings.Repeat("0 ", 10001) + "8",
	} {
		if got, err := script.Parse(text); err != api.ErrForm || len(got) != 0 {
			t.Errorf("%.20q: %v %v", text, got, err)
		}
	}
	for text, many := range map[string]int{"0x10000": 10000, strings.Repeat("0 1 ", 5000): 10000} {
		if got, err := script.Parse(text); err != api.OK || len(got) != many {
			t.Errorf("%.20q: %v %v", text, len(got), err)
		}
	}
	for _, text := range []string{"0x10001", "0x9999999", "0x5000 1x5001", strings.Repeat("0x9999999 ", 1000), "0x10000 1!"} {
		if got, err := script.Parse(text); err != api.ErrBound || len(got) != 0 {
			t.Errorf("%.20q: %v %v", text, len(got), err)
		}
	}
}

// P29.5
func TestWhatFollows(t *testing.T) {
	for seed := range 300 {
		dice := lab.Dice(seed)
		var l []api.Pick
		for range 30 {
			l = append(l, []api.Pick{step(dice(4)), step(dice(3)), stall(dice(3), dice(6)), die(dice(3)), {Kind: dice(5), A: dice(5) - 1, B: dice(2)}}[dice(5)])
		}
		plain := script.Plain(3, l)
		if !slices.Equal(script.Plain(3, plain), plain) {
			t.Fatal("plain picks are plain", l)
		}
		if half := script.Plain(3, l[:15]); !slices.Equal(plain[:len(half)], half) {
			t.Fatal("a beginning", l)
		}
		alive := 3
		dead := map[int]bool{}
		for _, p := range plain {
			if dead[p.A] || p.Kind == api.PStall {
				t.Fatal("a dead one", plain)
			}
			if p.Kind == api.PDie {
				dead[p.A] = true
				alive--
			}
		}
		if alive < 1 {
			t.Fatal("nobody is alive", plain)
		}
		if again, err := script.Parse(script.Text(plain)); err != api.OK || !slices.Equal(again, plain) {
			t.Fatal("what is written is read", plain)
		}
	}
}
