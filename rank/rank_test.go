package rank

import (
	"math"
	"math/rand"
	"slices"
	"testing"

	"fretwork/api"
	"fretwork/fault"
	"fretwork/odag"
	"fretwork/wire"
)

func must(t *testing.T, length int, lists ...[]int) (*odag.Odag, *Ranks) {
	t.Helper()
	o, err := odag.Of(length, lists)
	if err != nil {
		t.Fatal(err)
	}
	return o, ranks(t, o)
}

func ranks(t *testing.T, o *odag.Odag) *Ranks {
	t.Helper()
	r, err := Of(o)
	if err != nil {
		t.Fatal(err)
	}
	return r
}

// check holds ranks against the paths of their odag.
func check(t *testing.T, o *odag.Odag, r *Ranks, random *rand.Rand) {
	t.Helper()
	paths := slices.Collect(o.Paths())
	total := int64(len(paths))
	if r.Total() != total {
		t.Fatalf("P14.1: %d paths, not %d", r.Total(), total)
	}
	for n, want := range paths {
		p, e1 := r.At(int64(n))
		rank, e2 := r.Rank(want)
		if e1 != nil || e2 != nil || !slices.Equal(p, want) || rank != int64(n) {
			t.Fatalf("P14.1, P14.3: rank %d: %v, %d", n, p, rank)
		}
	}
	for _, n := range []int64{-1, total, math.MinInt64, math.MaxInt64} {
		if p, err := r.At(n); p != nil || fault.Code(err) != api.Range {
			t.Fatalf("P14.1: At %d: %v", n, err)
		}
	}
	for range 5 {
		from, to := random.Int63n(total+3)-1, random.Int63n(total+3)-1
		want := paths[min(max(from, 0), total):max(min(to, total), min(max(from, 0), total))]
		if got := slices.Collect(r.Each(Part{from, to})); !slices.EqualFunc(got, want, slices.Equal) {
			t.Fatalf("P14.1: Each %d to %d of %d: %v", from, to, total, got)
		}
	}
	if got := slices.Collect(r.Each(Part{math.MinInt64, math.MaxInt64})); !slices.EqualFunc(got, paths, slices.Equal) {
		t.Fatal("P14.1: Each of all")
	}
	parts, err := Split(total, 1+random.Intn(7))
	var got [][]int
	for _, p := range parts {
		got = append(got, slices.Collect(r.Each(p))...)
	}
	if err != nil || !slices.EqualFunc(got, paths, slices.Equal) {
		t.Fatalf("P14.3: what parts tell: %v", err)
	}
}

func TestRanks(t *testing.T) {
	random := rand.New(rand.NewSource(14))
	for range 200 {
		length := 1 + random.Intn(4)
		lists := make([][]int, random.Intn(9))
		for i := range lists {
			for range length {
				lists[i] = append(lists[i], random.Intn(4))
			}
		}
		o, r := must(t, length, lists...)
		check(t, o, r, random)
		for range 20 {
			l := make([]int, length)
			for i := range l {
				l[i] = random.Intn(5)
			}
			is := false
			for p := range o.Paths() {
				is = is || slices.Equal(p, l)
			}
			if n, err := r.Rank(l); is != (err == nil) || (!is && (n != 0 || fault.Code(err) != api.None)) {
				t.Fatalf("P14.1: is %v a path?", l)
			}
		}
	}
}

func TestRankOfNoPath(t *testing.T) {
	_, r := must(t, 2, []int{1, 2}, []int{3, 4})
	for _, l := range [][]int{nil, {}, {1}, {1, 4}, {1, 2, 2}, {2, 2}, {math.MinInt, math.MaxInt}} {
		if n, err := r.Rank(l); n != 0 || fault.Code(err) != api.None {
			t.Errorf("P14.1: %v: %d, %v", l, n, err)
		}
	}
}

func TestDeadEnds(t *testing.T) {
	var w wire.Writer
	w.Num(3)
	for _, l := range [][]int{{0, 1, 2, 3}, {3, 4, 5}, {6, 7}, nil, {3, 5}, {3}, {4}, {}, {6, 7}, {6}} {
		w.List(l)
	}
	o, err := odag.Read(w.Bytes())
	if err != nil {
		t.Fatal(err)
	}
	r := ranks(t, o)
	check(t, o, r, rand.New(rand.NewSource(141)))
	if _, err := r.Rank([]int{1, 3, 6}); fault.Code(err) != api.None {
		t.Errorf("P14.1: a list that ends: %v", err)
	}
}

func TestNil(t *testing.T) {
	if r, err := Of(nil); r != nil || fault.Code(err) != api.Nil {
		t.Errorf("P14.1: of nil: %v", err)
	}
	var r *Ranks
	p, e1 := r.At(0)
	n, e2 := r.Rank([]int{1})
	if r.Total() != 0 || p != nil || n != 0 || fault.Code(e1) != api.Nil || fault.Code(e2) != api.Nil || slices.Collect(r.Each(Part{0, 5})) != nil {
		t.Error("P14.1: nil ranks")
	}
	for _, r := range []*Ranks{new(Ranks), ranks(t, new(odag.Odag))} {
		_, e1 := r.At(0)
		_, e2 := r.Rank(nil)
		if r.Total() != 0 || fault.Code(e1) != api.Range || fault.Code(e2) != api.None {
			t.Error("P14.1: ranks of nothing")
		}
	}
}

// dense tells lists whose odag has all links between rows of n numbers.
func dense(length, n int) [][]int {
	var lists [][]int
	for a := range n {
		for b := range n {
			l := make([]int, length)
			for i := range l {
				l[i] = []int{a, b}[i%2]
			}
			lists = append(lists, l)
		}
	}
	return lists
}

func TestGreat(t *testing.T) {
	_, r := must(t, 8, dense(8, 100)...)
	const total = 10000000000000000
	if r.Total() != total {
		t.Errorf("P14.1: %d paths", r.Total())
	}
	p, err := r.At(1234567890123456)
	if err != nil || !slices.Equal(p, []int{12, 34, 56, 78, 90, 12, 34, 56}) {
		t.Errorf("P14.1: %v, %v", p, err)
	}
	if n, err := r.Rank(p); n != 1234567890123456 || err != nil {
		t.Errorf("P14.3: %d, %v", n, err)
	}
	for p := range r.Each(Part{total - 1, math.MaxInt64}) {
		if p[0] != 99 || p[7] != 99 {
			t.Errorf("P14.1: %v is last", p)
		}
	}
}

func TestEachMayBeLeft(t *testing.T) {
	_, r := must(t, 3, dense(3, 3)...)
	for n := range int64(r.Total()) {
		want, _ := r.At(n)
		for p := range r.Each(Part{n, math.MaxInt64}) {
			if !slices.Equal(p, want) {
				t.Errorf("P14.1: %v, not %v", p, want)
			}
			clear(p)
			break
		}
	}
}

func TestOverflow(t *testing.T) {
	o, err := odag.Of(8, dense(8, 256))
	if err != nil {
		t.Fatal(err)
	}
	if r, err := Of(o); r != nil || fault.Code(err) != api.Overflow {
		t.Errorf("P14.1: %v", err)
	}
}

func TestSplit(t *testing.T) {
	if l, err := Split(7, 3); err != nil || !slices.Equal(l, []Part{{0, 3}, {3, 5}, {5, 7}}) {
		t.Errorf("P14.2: %v", l)
	}
	for _, total := range []int64{0, 1, 5, 63, 64, 65, 1000, math.MaxInt64} {
		for _, n := range []int{1, 2, 3, 63, 64} {
			l, err := Split(total, n)
			end, ok := Whole(l)
			if err != nil || len(l) != n || end != total || !ok {
				t.Fatalf("P14.2: %d in %d: %v", total, n, err)
			}
			for i, p := range l {
				if i > 0 && p.To-p.From > l[i-1].To-l[i-1].From || l[0].To-(p.To-p.From) > 1 {
					t.Errorf("P14.2: %d in %d: %v", total, n, l)
				}
			}
		}
	}
	for _, c := range []struct {
		total int64
		n     int
	}{{-1, 1}, {math.MinInt64, 5}, {1, 0}, {1, -1}, {1, 65}, {1, math.MaxInt}, {1, math.MinInt}} {
		if l, err := Split(c.total, c.n); l != nil || fault.Code(err) != api.Arg {
			t.Errorf("P14.2: %d in %d: %v", c.total, c.n, err)
		}
	}
}

func TestWhole(t *testing.T) {
	for _, c := range []struct {
		l   []Part
		end int64
		ok  bool
	}{
		{nil, 0, true}, {[]Part{{0, 0}}, 0, true}, {[]Part{{0, 5}, {5, 5}, {5, 9}}, 9, true},
		{[]Part{{1, 5}}, 0, false}, {[]Part{{0, 5}, {6, 7}}, 0, false}, {[]Part{{0, 5}, {4, 7}}, 0, false}, {[]Part{{0, 5}, {5, 4}}, 0, false},
		{[]Part{{0, -1}}, 0, false}, {[]Part{{0, math.MaxInt64}, {math.MaxInt64, math.MinInt64}}, 0, false},
	} {
		if end, ok := Whole(c.l); end != c.end || ok != c.ok {
			t.Errorf("P14.2: %v: %d, %v", c.l, end, ok)
		}
	}
}
