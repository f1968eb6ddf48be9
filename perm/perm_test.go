package perm

import (
	"math"
	"slices"
	"testing"

	"fretwork/api"
	"fretwork/fault"
)

// wrong are lists that are no orders.
var wrong = [][]int{{1}, {-1}, {0, 0}, {0, 2}, {1, 2, 3}, {0, 1, 2, 3, 4, 5, 6, 7, 8}, {0, math.MinInt}, {math.MaxInt, 0}}

// orders tells all orders of n.
func orders(n int) [][]int { return slices.Collect(All(n)) }

func is(e error, code, at int) bool { return fault.Code(e) == code && fault.At(e) == at }

func TestRightAndId(t *testing.T) {
	for _, p := range wrong {
		if Right(p) {
			t.Errorf("P7.1: %v is no order", p)
		}
	}
	if !Right(nil) || !Right([]int{}) || !Right([]int{7, 6, 5, 4, 3, 2, 1, 0}) || !Right([]int{1, 2, 0}) {
		t.Error("P7.1: Right")
	}
	if !slices.Equal(Id(8), []int{0, 1, 2, 3, 4, 5, 6, 7}) || len(Id(0)) != 0 || Id(9) != nil || Id(-1) != nil || Id(math.MaxInt) != nil || Id(math.MinInt) != nil {
		t.Error("P7.1: Id")
	}
}

func TestWrong(t *testing.T) {
	for _, p := range wrong {
		back, e1 := Back(p)
		then, e2 := Then(p, []int{0, 1, 2, 3})
		other, e3 := Then([]int{0, 1, 2, 3}, p)
		put, e4 := Put(p, make([]int, len(p)+1))
		even, e5 := Even(p)
		circles, e6 := Circles(p)
		rank, e7 := Rank(p)
		for i, e := range []error{e1, e2, e3, e4, e5, e6, e7} {
			if !is(e, api.Arg, 0) {
				t.Errorf("P7.1, P7.2: call %d of %v: %v", i, p, e)
			}
		}
		if back != nil || then != nil || other != nil || put != nil || even || circles != nil || rank != 0 {
			t.Errorf("P7.1, P7.2: answers of %v", p)
		}
	}
	if p, err := Then([]int{0}, []int{1, 0}); p != nil || !is(err, api.Arg, 1) {
		t.Errorf("P7.1: Then of unlike lengths: %v", err)
	}
	if p, err := Put([]int{1, 0}, []int{4, 5, 6}); p != nil || !is(err, api.Arg, 1) {
		t.Errorf("P7.1: Put of unlike lengths: %v", err)
	}
}

func TestThenPutBack(t *testing.T) {
	if p, err := Then([]int{1, 0, 2}, []int{2, 0, 1}); err != nil || !slices.Equal(p, []int{0, 2, 1}) {
		t.Errorf("P7.1: Then: %v", p)
	}
	if l, err := Put([]int{2, 0, 1}, []int{10, 20, 10}); err != nil || !slices.Equal(l, []int{20, 10, 10}) {
		t.Errorf("P7.1: Put: %v", l)
	}
	if b, err := Back([]int{2, 0, 1}); err != nil || !slices.Equal(b, []int{1, 2, 0}) {
		t.Errorf("P7.1: Back: %v", b)
	}
	if b, err := Back(nil); err != nil || len(b) != 0 {
		t.Errorf("P7.1: Back of nothing: %v", err)
	}
	for _, p := range orders(4) {
		back, _ := Back(p)
		there, _ := Then(p, back)
		here, _ := Then(back, p)
		if !slices.Equal(there, Id(4)) || !slices.Equal(here, Id(4)) {
			t.Errorf("P7.3: Back of %v", p)
		}
		for _, q := range orders(4) {
			pq, _ := Then(p, q)
			for _, r := range [][]int{{1, 2, 3, 0}, {3, 1, 0, 2}, {0, 1, 3, 2}} {
				left, _ := Then(pq, r)
				qr, _ := Then(q, r)
				right, _ := Then(p, qr)
				if !slices.Equal(left, right) {
					t.Errorf("P7.3: %v, %v, %v", p, q, r)
				}
			}
		}
	}
}

func TestAll(t *testing.T) {
	count := 1
	for n := range 9 {
		count *= max(n, 1)
		l := orders(n)
		if len(l) != count || !slices.IsSortedFunc(l, slices.Compare) || len(slices.CompactFunc(slices.Clone(l), slices.Equal)) != count {
			t.Errorf("P7.2: %d orders of %d", len(l), n)
		}
		for rank, p := range l {
			r, err := Rank(p)
			q, other := Of(n, rank)
			if !Right(p) || len(p) != n || r != rank || err != nil || !slices.Equal(p, q) || other != nil {
				t.Fatalf("P7.2, P7.3: %v: rank %d of %d, %v", p, r, rank, q)
			}
		}
		for _, rank := range []int{-1, count, math.MaxInt, math.MinInt} {
			if p, err := Of(n, rank); p != nil || fault.Code(err) != api.Arg {
				t.Errorf("P7.2: Of %d, %d", n, rank)
			}
		}
	}
	for _, n := range []int{-1, 9, math.MaxInt, math.MinInt} {
		if p, err := Of(n, 0); len(orders(n)) > 0 || p != nil || fault.Code(err) != api.Arg {
			t.Errorf("P7.2: orders of %d", n)
		}
	}
}

func TestAllMayBeLeft(t *testing.T) {
	all := All(3)
	for range 2 {
		n := 0
		for p := range all {
			if n++; n == 3 {
				if !slices.Equal(p, []int{1, 0, 2}) {
					t.Errorf("P7.2: %v", p)
				}
				break
			}
			clear(p)
		}
	}
}

func TestEvenAndCircles(t *testing.T) {
	for _, c := range []struct {
		p       []int
		even    bool
		circles [][]int
	}{
		{nil, true, nil},
		{[]int{0}, true, [][]int{{0}}},
		{[]int{1, 0}, false, [][]int{{0, 1}}},
		{[]int{2, 0, 1}, true, [][]int{{0, 2, 1}}},
		{[]int{0, 3, 2, 1}, false, [][]int{{0}, {1, 3}, {2}}},
		{[]int{4, 3, 0, 1, 2, 5}, false, [][]int{{0, 4, 2}, {1, 3}, {5}}},
	} {
		even, e1 := Even(c.p)
		circles, e2 := Circles(c.p)
		if even != c.even || e1 != nil || e2 != nil || !slices.EqualFunc(circles, c.circles, slices.Equal) {
			t.Errorf("P7.2: %v: %v, %v", c.p, even, circles)
		}
	}
	for _, p := range orders(5) {
		even, _ := Even(p)
		circles, _ := Circles(p)
		if even != ((5-len(circles))%2 == 0) {
			t.Errorf("P7.2: %v: %v, %v", p, even, circles)
		}
	}
}
