package nums

import (
	"errors"
	"math"
	"math/big"
	"slices"
	"testing"

	"fretwork/api"
	"fretwork/fault"
)

const top, bottom = math.MaxInt64, math.MinInt64

// ends are numbers near where they turn wrong.
var ends = []int64{0, 1, -1, 2, -2, 3, 7, -7, 1 << 31, -(1 << 31), 1 << 32, 3037000499, 3037000500, -3037000500,
	1 << 62, -(1 << 62), 1<<62 - 1, top, top - 1, bottom, bottom + 1, top / 2, top / 3, bottom / 2}

// agrees tells whether an answer is the whole number, or its Overflow.
func agrees(whole *big.Int, n int64, err error, name string) bool {
	if whole.IsInt64() {
		return err == nil && n == whole.Int64()
	}
	var f *api.Fault
	return n == 0 && errors.As(err, &f) && *f == api.Fault{Code: api.Overflow, Name: name}
}

func TestAddAndMul(t *testing.T) {
	for _, a := range ends {
		for _, b := range ends {
			x, y := big.NewInt(a), big.NewInt(b)
			if n, err := Add(a, b); !agrees(new(big.Int).Add(x, y), n, err, "sum") {
				t.Errorf("P2.1: %d and %d: %d, %v", a, b, n, err)
			}
			if n, err := Mul(a, b); !agrees(new(big.Int).Mul(x, y), n, err, "product") {
				t.Errorf("P2.1: %d times %d: %d, %v", a, b, n, err)
			}
		}
	}
}

func TestPow(t *testing.T) {
	for _, a := range ends {
		for n := range 70 {
			whole := new(big.Int).Exp(big.NewInt(a), big.NewInt(int64(n)), nil)
			if p, err := Pow(a, n); !agrees(whole, p, err, "power") {
				t.Errorf("P2.1: %d, %d times: %d, %v", a, n, p, err)
			}
		}
	}
	for _, c := range []struct {
		a    int64
		n    int
		want int64
	}{{1, math.MaxInt, 1}, {0, math.MaxInt, 0}, {-1, math.MaxInt, -1}, {-1, math.MaxInt - 1, 1}, {0, 0, 1}, {-2, 63, bottom}} {
		if p, err := Pow(c.a, c.n); p != c.want || err != nil {
			t.Errorf("P2.1: %d, %d times: %d, %v", c.a, c.n, p, err)
		}
	}
	if _, err := Pow(2, math.MaxInt); fault.Code(err) != api.Overflow {
		t.Error("P2.1: a great power")
	}
	for _, n := range []int{-1, math.MinInt} {
		if p, err := Pow(3, n); p != 0 || fault.Code(err) != api.Arg {
			t.Errorf("P2.1: a power of %d: %v", n, err)
		}
	}
}

func TestChoose(t *testing.T) {
	for n := int64(0); n < 75; n++ {
		for k := int64(0); k < 77; k++ {
			c, err := Choose(n, k)
			if !agrees(new(big.Int).Binomial(n, k), c, err, "choice") {
				t.Errorf("P2.1: %d of %d: %d, %v", k, n, c, err)
			}
		}
	}
	for _, c := range [][3]int64{{top, 1, top}, {top, top - 1, top}, {top, top, 1}, {top, 0, 1}, {1 << 32, 2, (1<<32 - 1) << 31}, {5, top, 0}, {4294967296, 4294967294, (1<<32 - 1) << 31}} {
		if n, err := Choose(c[0], c[1]); n != c[2] || err != nil {
			t.Errorf("P2.1: %d of %d: %d, %v", c[1], c[0], n, err)
		}
	}
	for _, c := range [][2]int64{{top, 2}, {top, top / 2}, {top, top - 2}, {1 << 33, 2}} {
		if n, err := Choose(c[0], c[1]); n != 0 || fault.Code(err) != api.Overflow {
			t.Errorf("P2.1: %d of %d: %d, %v", c[1], c[0], n, err)
		}
	}
	for _, c := range [][2]int64{{-1, 0}, {0, -1}, {bottom, bottom}, {3, bottom}} {
		if n, err := Choose(c[0], c[1]); n != 0 || fault.Code(err) != api.Arg {
			t.Errorf("P2.1: %d of %d: %d, %v", c[1], c[0], n, err)
		}
	}
}

func TestTotal(t *testing.T) {
	for i, l := range [][]int64{nil, {5}, {top, 1, -1}, {top, 1}, {bottom, -1}, {bottom, -1, 1}, {bottom, bottom, top, top, 2},
		{top, top, top, bottom, bottom, bottom}, {bottom, bottom}, {top, top, top, top, bottom, bottom, bottom}, ends, {bottom, top, top}} {
		whole := new(big.Int)
		for _, n := range l {
			whole.Add(whole, big.NewInt(n))
		}
		n, err := Total(l)
		if !agrees(whole, n, err, "sum") {
			t.Errorf("P2.1: total %d: %d, %v", i, n, err)
		}
		back := slices.Clone(l)
		slices.Reverse(back)
		if m, other := Total(back); m != n || fault.Code(other) != fault.Code(err) {
			t.Errorf("P2.2: total %d, from behind: %d, %v", i, m, other)
		}
		slices.Sort(back)
		if m, other := Total(back); m != n || fault.Code(other) != fault.Code(err) {
			t.Errorf("P2.2: total %d, in order: %d, %v", i, m, other)
		}
	}
}

func TestLeast(t *testing.T) {
	if n, ok := Least(nil); n != 0 || ok {
		t.Error("P2.1: the least of none")
	}
	for _, l := range [][]int64{{3}, {0, bottom, top}, {top, 4, 9}, {5, 4, 3}} {
		if n, ok := Least(l); !ok || n != slices.Min(l) {
			t.Errorf("P2.1: the least of %v: %d", l, n)
		}
	}
}
