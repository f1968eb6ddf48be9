package sets

import (
	"math"
	"math/rand"
	"slices"
	"testing"
)

// some tells a random set of small numbers.
func some(r *rand.Rand) []int {
	var s []int
	for n := -3; n < 7; n++ {
		if r.Intn(2) == 0 {
			s = append(s, n)
		}
	}
	return s
}

func TestOf(t *testing.T) {
	l := []int{3, 1, 3, math.MinInt, 2, math.MaxInt, 1}
	if s := Of(l); !slices.Equal(s, []int{math.MinInt, 1, 2, 3, math.MaxInt}) || l[0] != 3 {
		t.Errorf("P6.1: %v of %v", s, l)
	}
	rising := []int{1, 2}
	Of(rising)[0] = 9
	if len(Of(nil)) != 0 || rising[0] != 1 {
		t.Error("P6.1: Of")
	}
}

func TestRight(t *testing.T) {
	for _, s := range [][]int{nil, {}, {5}, {-1, 0, 7}, {math.MinInt, math.MaxInt}} {
		if !Right(s) {
			t.Errorf("P6.1: %v is a set", s)
		}
	}
	for _, s := range [][]int{{1, 1}, {2, 1}, {1, 3, 2}, {math.MaxInt, math.MinInt}} {
		if Right(s) {
			t.Errorf("P6.1: %v is no set", s)
		}
	}
}

func TestSets(t *testing.T) {
	r := rand.New(rand.NewSource(6))
	for range 300 {
		a, b := some(r), some(r)
		x, y := slices.Clone(a), slices.Clone(b)
		var union, both, but []int
		for n := -4; n < 8; n++ {
			inA, inB := slices.Contains(a, n), slices.Contains(b, n)
			if inA || inB {
				union = append(union, n)
			}
			if inA && inB {
				both = append(both, n)
			}
			if inA && !inB {
				but = append(but, n)
			}
			if Has(a, n) != inA || !slices.Equal(Add(a, n), Of(append(slices.Clone(a), n))) {
				t.Errorf("P6.1: Has, Add: %v and %d", a, n)
			}
			if less := Less(a, n); Has(less, n) || !slices.Equal(Add(less, n), Add(a, n)) || !Right(less) {
				t.Errorf("P6.1: Less: %v and %d", a, n)
			}
		}
		if !slices.Equal(Union(a, b), union) || !slices.Equal(Both(a, b), both) || !slices.Equal(But(a, b), but) || Within(a, b) != (len(but) == 0) {
			t.Errorf("P6.1: %v and %v", a, b)
		}
		for _, told := range [][]int{Union(a, nil), Union(nil, a), But(a, nil), Both(a, a), Add(a, 0), Less(a, 9)} {
			clear(told)
		}
		if !slices.Equal(a, x) || !slices.Equal(b, y) {
			t.Error("P6.1: what is told is new memory")
		}
	}
	if !Within(nil, nil) || !Within(nil, []int{1}) || Within([]int{1}, nil) {
		t.Error("P6.1: Within of nothing")
	}
}

func TestNoSets(t *testing.T) {
	l := []int{5, 1, 5, 3, math.MaxInt, math.MinInt, 3}
	for _, b := range [][]int{nil, l, {9, 8}} {
		Has(l, 3)
		Add(l, 2)
		Less(l, 5)
		Union(l, b)
		Both(b, l)
		But(l, b)
		Within(b, l)
		for p := range Picks(l, 2) {
			if len(p) != 2 {
				t.Error("P6.1: picks of no set")
			}
		}
	}
}

func TestCompare(t *testing.T) {
	order := [][]int{nil, {math.MinInt}, {-1, 5}, {0}, {0, 0}, {0, 1, 2}, {0, 2}, {3}, {math.MaxInt}}
	for i, a := range order {
		for j, b := range order {
			want := 0
			if i < j {
				want = -1
			} else if i > j {
				want = 1
			}
			if Compare(a, b) != want {
				t.Errorf("P6.2: %v and %v: %d", a, b, Compare(a, b))
			}
		}
	}
}

func TestPicks(t *testing.T) {
	var got [][]int
	for p := range Picks([]int{1, 4, 6}, 2) {
		got = append(got, p)
	}
	if !slices.EqualFunc(got, [][]int{{1, 4}, {1, 6}, {4, 6}}, slices.Equal) {
		t.Errorf("P6.2: %v", got)
	}
	for n := range 8 {
		s := make([]int, n)
		for i := range s {
			s[i] = i*i - 3
		}
		for k := -1; k <= n+1; k++ {
			got = nil
			for p := range Picks(s, k) {
				got = append(got, p)
				if !Right(p) || !Within(p, s) || len(p) != k {
					t.Errorf("P6.2: %v of %v", p, s)
				}
			}
			count := Count(n, max(k, 0))
			if k < 0 {
				count = 0
			}
			if int64(len(got)) != count || !slices.IsSortedFunc(got, Compare) || len(slices.CompactFunc(got, slices.Equal)) != int(count) {
				t.Errorf("P6.3: %d of %d: %v", k, n, got)
			}
		}
	}
	for _, k := range []int{math.MinInt, math.MaxInt} {
		for range Picks([]int{1}, k) {
			t.Error("P6.2: too many or too few")
		}
	}
}

func TestPicksMayBeLeft(t *testing.T) {
	s := []int{1, 2, 3, 4}
	picks := Picks(s, 2)
	s[0] = 9
	for range 2 {
		var got [][]int
		for p := range picks {
			got = append(got, p)
			if len(got) == 2 {
				break
			}
			clear(p)
		}
		if len(got) != 2 || !slices.Equal(got[1], []int{1, 3}) || !slices.Equal(got[0], []int{0, 0}) {
			t.Errorf("P6.2: %v", got)
		}
	}
}

func TestCount(t *testing.T) {
	for _, c := range []struct {
		n, k int
		want int64
	}{{5, 2, 10}, {0, 0, 1}, {3, 4, 0}, {-1, 0, -1}, {4, -1, -1}, {math.MaxInt, 1, math.MaxInt}, {math.MaxInt, 2, -1}, {math.MinInt, math.MinInt, -1}} {
		if Count(c.n, c.k) != c.want {
			t.Errorf("P6.2: %d of %d: %d", c.k, c.n, Count(c.n, c.k))
		}
	}
}
