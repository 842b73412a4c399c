package wire_test

import (
	"bytes"
	"math"
	"slices"
	"testing"

	"underwood/api"
	"underwood/wire"
)

// P3.1
func TestPut(t *testing.T) {
	for _, x := range []struct {
		n    int
		want []byte
	}{
		{0, []byte{0}}, {-1, []byte{1}}, {1, []byte{2}}, {63, []byte{126}}, {-64, []byte{127}}, {64, []byte{128, 1}},
		{-65, []byte{129, 1}}, {8191, []byte{254, 127}}, {8192, []byte{128, 128, 1}},
		{math.MaxInt, []byte{254, 255, 255, 255, 255, 255, 255, 255, 255, 1}},
		{math.MinInt, []byte{255, 255, 255, 255, 255, 255, 255, 255, 255, 1}},
	} {
		got := wire.Put(x.n)
		if !bytes.Equal(got, x.want) {
			t.Errorf("Put(%d) = %v", x.n, got)
		}
		n, size, err := wire.Get(append(got, 255, 0))
		if n != x.n || size != len(x.want) || err != api.OK {
			t.Errorf("Get(%v) = %d %d %v", got, n, size, err)
		}
		for i := range x.want {
			if n, size, err := wire.Get(x.want[:i]); n != 0 || size != 0 || err != api.ErrForm {
				t.Errorf("Get of the beginning %v = %d %d %v", x.want[:i], n, size, err)
			}
		}
	}
}

func TestGetWrong(t *testing.T) {
	for _, b := range [][]byte{
		nil, {128}, {128, 0}, {255, 128, 0},
		{255, 255, 255, 255, 255, 255, 255, 255, 255, 2},
		{255, 255, 255, 255, 255, 255, 255, 255, 255, 3},
		{128, 128, 128, 128, 128, 128, 128, 128, 128, 128, 1},
		{128, 128, 128, 128, 128, 128, 128, 128, 128, 0},
	} {
		if n, size, err := wire.Get(b); n != 0 || size != 0 || err != api.ErrForm {
			t.Errorf("Get(%v) = %d %d %v", b, n, size, err)
		}
	}
}

// P3.2
func TestText(t *testing.T) {
	if got := wire.Text("ab"); !bytes.Equal(got, []byte{4, 97, 98}) {
		t.Error(got)
	}
	for _, s := range []string{"", "a", "\x00\xff", string(make([]byte, 100))} {
		b := wire.Text(s)
		for _, more := range [][]byte{nil, {7}} {
			if got, n, err := wire.GetText(append(slices.Clone(b), more...)); got != s || n != len(b) || err != api.OK {
				t.Errorf("GetText of %q: %q %d %v", s, got, n, err)
			}
		}
		if got, n, err := wire.GetText(b[:len(b)-1]); got != "" || n != 0 || err != api.ErrForm {
			t.Errorf("GetText of less than %q: %q %d %v", s, got, n, err)
		}
	}
	for _, b := range [][]byte{{1}, {4, 97}, {128, 0}, wire.Put(math.MaxInt), append(wire.Put(math.MinInt), 5)} {
		if got, n, err := wire.GetText(b); got != "" || n != 0 || err != api.ErrForm {
			t.Errorf("GetText(%v) = %q %d %v", b, got, n, err)
		}
	}
}

// P3.3
func TestNums(t *testing.T) {
	if got := wire.Nums([]int{1, -1}); !bytes.Equal(got, []byte{4, 2, 1}) {
		t.Error(got)
	}
	for _, l := range [][]int{nil, {0}, {1, -1, 64}, {math.MaxInt, math.MinInt, 5, 5}, make([]int, 300)} {
		b := wire.Nums(l)
		for _, more := range [][]byte{nil, {255}} {
			if got, n, err := wire.GetNums(append(slices.Clone(b), more...)); !slices.Equal(got, l) || n != len(b) || err != api.OK {
				t.Errorf("GetNums of %v: %v %d %v", l, got, n, err)
			}
		}
		if got, n, err := wire.GetNums(b[:len(b)-1]); len(got) != 0 || n != 0 || err != api.ErrForm {
			t.Errorf("GetNums of less than %v: %v %d %v", l, got, n, err)
		}
	}
	for _, b := range [][]byte{{1}, {2}, {4, 0}, {4, 0, 128}, {2, 128, 0}, wire.Put(1 << 40), append(wire.Put(math.MaxInt), 1)} {
		if got, n, err := wire.GetNums(b); len(got) != 0 || n != 0 || err != api.ErrForm {
			t.Errorf("GetNums(%v) = %v %d %v", b, got, n, err)
		}
	}
}

// P3.4
func TestSum(t *testing.T) {
	for _, x := range []struct {
		b    []byte
		want int
	}{{nil, 1}, {[]byte{1}, 131074}, {[]byte{1, 2}, 393220}, {[]byte{0}, 65537}} {
		if got := wire.Sum(x.b); got != x.want {
			t.Errorf("Sum(%v) = %d", x.b, got)
		}
	}
	b := bytes.Repeat([]byte{255}, 5000)
	x, y := 1, 0
	for range b {
		x = (x + 255) % 65521
		y = (y + x) % 65521
	}
	if got := wire.Sum(b); got != y*65536+x {
		t.Error("a long sum", got)
	}
}

func TestSeal(t *testing.T) {
	if got := wire.Seal([]byte{1}); !bytes.Equal(got, append([]byte{2, 1}, wire.Put(131074)...)) {
		t.Error(got)
	}
	for _, b := range [][]byte{nil, {0}, {1, 2, 3}, bytes.Repeat([]byte{200, 3}, 100)} {
		s := wire.Seal(b)
		got, n, err := wire.Open(append(slices.Clone(s), 9))
		if !bytes.Equal(got, b) || n != len(s) || err != api.OK {
			t.Errorf("Open of %v: %v %d %v", b, got, n, err)
		}
		if got, n, err := wire.Open(s); !bytes.Equal(got, b) || n != len(s) || err != api.OK {
			t.Errorf("Open of %v alone: %v %d %v", b, got, n, err)
		}
		if len(got) > 0 {
			got[0]++
			if !bytes.Equal(s, wire.Seal(b)) {
				t.Error("what is opened shares memory with the seal")
			}
		}
		for i := range s {
			if got, n, err := wire.Open(s[:i]); len(got) != 0 || n != 0 || err != api.ErrForm {
				t.Errorf("Open of %v: %v %d %v", s[:i], got, n, err)
			}
		}
	}
}

// P3.5
func TestSealFindsFaults(t *testing.T) {
	b := []byte{1, 2, 2, 250, 0, 7}
	first := len(wire.Put(len(b)))
	for i := range b {
		for d := 1; d < 256; d++ {
			s := wire.Seal(b)
			s[first+i] += byte(d)
			if got, n, err := wire.Open(s); len(got) != 0 || n != 0 || err != api.ErrForm {
				t.Fatal("a byte that is another one", i, d, got, n, err)
			}
		}
		if i > 0 && b[i] != b[i-1] {
			c := slices.Clone(b)
			c[i], c[i-1] = c[i-1], c[i]
			if wire.Sum(c) == wire.Sum(b) {
				t.Error("neighbours that changed places", i)
			}
		}
	}
}
