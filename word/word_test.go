package word_test

import (
	"testing"

	"underwood/api"
	"underwood/word"
)

// P1.1
func TestPackAndOf(t *testing.T) {
	for _, x := range []struct {
		r api.Ref
		n int
	}{
		{api.Ref{}, 0},
		{api.Ref{Idx: 5, Mark: true, Cnt: 3}, 458757},
		{api.Ref{Idx: 1<<16 - 1}, 1<<16 - 1},
		{api.Ref{Mark: true}, 1 << 16},
		{api.Ref{Cnt: 1}, 1 << 17},
		{api.Ref{Cnt: 1<<28 - 1}, (1<<28 - 1) << 17},
	} {
		if got := word.Pack(x.r); got != x.n {
			t.Errorf("Pack(%v) = %d, want %d", x.r, got, x.n)
		}
		for _, n := range []int{x.n, x.n + 1<<45, x.n - 1<<45, x.n + 3<<45} {
			if got := word.Of(n); got != x.r {
				t.Errorf("Of(%d) = %v, want %v", n, got, x.r)
			}
		}
	}
}

func TestPackGoesRound(t *testing.T) {
	for _, x := range []struct {
		r api.Ref
		n int
	}{
		{api.Ref{Idx: 1 << 16}, 0},
		{api.Ref{Idx: 1<<16 + 7}, 7},
		{api.Ref{Idx: -1}, 1<<16 - 1},
		{api.Ref{Cnt: 1 << 28}, 0},
		{api.Ref{Cnt: -1}, (1<<28 - 1) << 17},
	} {
		if got := word.Pack(x.r); got != x.n {
			t.Errorf("Pack(%v) = %d, want %d", x.r, got, x.n)
		}
	}
}

func TestTurn(t *testing.T) {
	for _, x := range []struct {
		r    api.Ref
		idx  int
		want api.Ref
	}{
		{api.Ref{}, 0, api.Ref{Cnt: 1}},
		{api.Ref{Idx: 9, Mark: true, Cnt: 4}, 7, api.Ref{Idx: 7, Cnt: 5}},
		{api.Ref{Cnt: 1<<28 - 1}, 1<<16 + 1, api.Ref{Idx: 1}},
		{api.Ref{Cnt: -1}, -1, api.Ref{Idx: 1<<16 - 1}},
	} {
		if got := word.Turn(x.r, x.idx); got != x.want {
			t.Errorf("Turn(%v, %d) = %v, want %v", x.r, x.idx, got, x.want)
		}
	}
}

// P1.2
func TestOrderNumbers(t *testing.T) {
	for k, want := range map[int]int{0: 0, 1: 1 << 15, 2: 1 << 14, 3: 3 << 14, 1 << 15: 1, 1<<16 - 1: 1<<16 - 1, 1 << 16: 0, 1<<16 + 1: 1 << 15, -1: 1<<16 - 1, -2: 1<<15 - 1} {
		if got := word.Rev(k); got != want {
			t.Errorf("Rev(%d) = %d, want %d", k, got, want)
		}
		if got := word.Real(k); got != 2*want+1 {
			t.Errorf("Real(%d) = %d", k, got)
		}
		if got := word.Dummy(k); got != 2*want {
			t.Errorf("Dummy(%d) = %d", k, got)
		}
	}
	for n, want := range map[int]int{0: 0, 1: 0, 98304: 3, 98305: 3, 1 << 17: 0, 1<<17 + 65536: 1, -1: 1<<16 - 1, -2: 1<<16 - 1, 2: 1 << 15} {
		if got := word.Key(n); got != want {
			t.Errorf("Key(%d) = %d, want %d", n, got, want)
		}
	}
}

// P1.3
func TestOffers(t *testing.T) {
	for _, x := range []struct{ v, kind, cnt, n int }{
		{0, 0, 0, 0},
		{7, 1, 2, 38654705671},
		{1<<32 - 1, 3, 1<<28 - 1, 1<<62 - 1},
		{0, 2, 0, 2 << 32},
	} {
		if got := word.Offer(x.v, x.kind, x.cnt); got != x.n {
			t.Errorf("Offer(%d, %d, %d) = %d, want %d", x.v, x.kind, x.cnt, got, x.n)
		}
		for _, n := range []int{x.n, x.n - 1<<62} {
			if v, kind, cnt := word.Offered(n); v != x.v || kind != x.kind || cnt != x.cnt {
				t.Errorf("Offered(%d) = %d %d %d", n, v, kind, cnt)
			}
		}
	}
	if word.Offer(1<<32+3, 5, 1<<28+2) != word.Offer(3, 1, 2) || word.Offer(-1, -1, -1) != 1<<62-1 {
		t.Error("offers do not go round")
	}
}

// P1.4
func TestWhatFollows(t *testing.T) {
	seen := map[int]bool{}
	for k := range 1 << 16 {
		if word.Key(word.Real(k)) != k || word.Key(word.Dummy(k)) != k || word.Real(k)%2 != 1 || word.Dummy(k)%2 != 0 {
			t.Fatal("key", k)
		}
		if seen[word.Real(k)] || seen[word.Dummy(k)] {
			t.Fatal("two of one order number", k)
		}
		seen[word.Real(k)], seen[word.Dummy(k)] = true, true
	}
	for size := 1; size <= 64; size *= 2 {
		for k := 0; k < 1<<16; k += 37 {
			own, next := word.Dummy(k%size), 1<<17
			for b := range size {
				if d := word.Dummy(b); d > own && d < next {
					next = d
				}
			}
			if n := word.Real(k); n <= own || n >= next {
				t.Fatal("key", k, "of", size, "stands outside of its bucket")
			}
		}
	}
	r := api.Ref{Idx: 3, Cnt: 9}
	if word.Turn(r, 3) == r || word.Of(word.Pack(r)) != r {
		t.Error("a pointer that was turned is another one")
	}
}
