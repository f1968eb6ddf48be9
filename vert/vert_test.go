package vert

import (
	"math"
	"math/rand"
	"slices"
	"testing"

	"fretwork/api"
	"fretwork/graph"
	"fretwork/sets"
)

func of(t *testing.T, n int, ends ...int) *graph.Graph {
	t.Helper()
	var l []api.Edge
	for i := 0; i+1 < len(ends); i += 2 {
		l = append(l, api.Edge{A: ends[i], B: ends[i+1]})
	}
	g, err := graph.New(make([]int, n), l)
	if err != nil {
		t.Fatal(err)
	}
	return g
}

// some tells a random graph.
func some(t *testing.T, r *rand.Rand, n int) *graph.Graph {
	var ends []int
	for a := range n {
		for b := range a {
			if r.Intn(3) == 0 {
				ends = append(ends, a, b)
			}
		}
	}
	return of(t, n, ends...)
}

// listOf tells the list of a set just as the words are.
func listOf(g *graph.Graph, s []int) ([]int, bool) {
	var list []int
	for len(list) < len(s) {
		found := false
		for _, v := range s {
			if slices.Contains(list, v) || (len(list) > 0 && !slices.ContainsFunc(list, func(u int) bool { return g.Has(u, v) })) {
				continue
			}
			list, found = append(list, v), true
			break
		}
		if !found {
			return nil, false
		}
	}
	return list, true
}

func TestLinked(t *testing.T) {
	g := of(t, 5, 0, 2, 2, 1, 3, 4)
	for _, l := range [][]int{nil, {}, {4}, {0, 2, 1}, {2, 0, 1}, {1, 2}, {4, 3}} {
		if !Linked(g, l) {
			t.Errorf("P10.1: %v is linked", l)
		}
	}
	for _, l := range [][]int{{0, 1}, {0, 1, 2}, {5}, {-1}, {0, 0}, {0, 2, 0}, {0, 2, 3}, {0, 2, 9}, {math.MaxInt}, {math.MinInt}} {
		if Linked(g, l) {
			t.Errorf("P10.1: %v isn't linked", l)
		}
	}
}

func TestList(t *testing.T) {
	path := of(t, 3, 0, 2, 2, 1)
	if l, ok := List(path, []int{2, 1, 0, 1}); !ok || !slices.Equal(l, []int{0, 2, 1}) {
		t.Errorf("P10.1: %v", l)
	}
	if l, ok := List(path, nil); !ok || len(l) != 0 {
		t.Error("P10.1: the list of the empty set")
	}
	for _, s := range [][]int{{0, 1}, {0, 3}, {-1, 0}, {math.MaxInt}, {math.MinInt}} {
		if l, ok := List(path, s); ok || l != nil {
			t.Errorf("P10.1: %v", s)
		}
	}
	r := rand.New(rand.NewSource(10))
	for range 40 {
		g := some(t, r, 9)
		for set := range sets.Picks([]int{0, 1, 2, 3, 4, 5, 6, 7, 8}, r.Intn(7)) {
			want, ok := listOf(g, set)
			r.Shuffle(len(set), func(i, j int) { set[i], set[j] = set[j], set[i] })
			if l, may := List(g, set); may != ok || !slices.Equal(l, want) {
				t.Fatalf("P10.1: %v of %v", l, set)
			}
		}
	}
}

func TestCanonical(t *testing.T) {
	r := rand.New(rand.NewSource(11))
	for range 20 {
		g := some(t, r, 6)
		lists := [][]int{nil}
		for len(lists) > 0 && len(lists[0]) < 5 {
			var longer [][]int
			for _, l := range lists {
				set := sets.Of(l)
				want, _ := listOf(g, set)
				canonical := Linked(g, l) && slices.Equal(l, want)
				if Canonical(g, l) != canonical {
					t.Fatalf("P10.1: is %v canonical?", l)
				}
				if !canonical && (Grow(g, l) != nil || May(g, l, 0)) {
					t.Fatalf("P10.2: %v isn't canonical", l)
				}
				for i := range l {
					if canonical && !Canonical(g, l[:i]) {
						t.Fatalf("P10.3: what %v begins with", l)
					}
				}
				for v := range 7 {
					longer = append(longer, append(slices.Clone(l), v))
				}
			}
			lists = longer
		}
	}
}

func TestNextMayGrow(t *testing.T) {
	r := rand.New(rand.NewSource(12))
	for range 40 {
		g := some(t, r, 8)
		for set := range sets.Picks([]int{0, 1, 2, 3, 4, 5, 6, 7}, r.Intn(5)) {
			var next, grow []int
			l, ok := List(g, set)
			if !ok {
				l = set
			}
			for v := -1; v < 9; v++ {
				longer := append(slices.Clone(l), v)
				if !slices.Contains(l, v) && (slices.ContainsFunc(l, func(u int) bool { return g.Has(u, v) }) || (len(l) == 0 && v >= 0 && v < 8)) {
					next = append(next, v)
				}
				may := ok && Canonical(g, longer)
				if may {
					grow = append(grow, v)
				}
				if May(g, l, v) != may {
					t.Fatalf("P10.2: %v and %d", l, v)
				}
			}
			if !slices.Equal(Next(g, l), next) || !slices.Equal(Grow(g, l), grow) {
				t.Fatalf("P10.2: Next, Grow of %v: %v, %v", l, Next(g, l), Grow(g, l))
			}
		}
	}
	g := of(t, 4, 0, 1, 1, 2)
	if !slices.Equal(Next(g, []int{1, 9, -1, 1}), []int{0, 2}) || len(Next(g, []int{7})) != 0 {
		t.Error("P10.2: Next of what is no vertex")
	}
	for _, v := range []int{math.MinInt, math.MaxInt, -1, 4, 1, 3} {
		if May(g, []int{0, 1}, v) || May(g, []int{1, 0}, 2) {
			t.Errorf("P10.2: May of %d", v)
		}
	}
}

func TestEachOnce(t *testing.T) {
	r := rand.New(rand.NewSource(13))
	for range 20 {
		g := some(t, r, 8)
		lists := Bare(g)
		for n := 1; n <= 8; n++ {
			connected := 0
			for set := range sets.Picks([]int{0, 1, 2, 3, 4, 5, 6, 7}, n) {
				if want, ok := listOf(g, set); ok {
					connected++
					if !slices.ContainsFunc(lists, func(l []int) bool { return slices.Equal(l, want) }) {
						t.Fatalf("P10.3: %v isn't come to", set)
					}
				}
			}
			if len(lists) != connected {
				t.Fatalf("P10.3: %d lists, %d sets of %d", len(lists), connected, n)
			}
			var longer [][]int
			for _, l := range lists {
				for _, v := range Grow(g, l) {
					longer = append(longer, append(slices.Clone(l), v))
				}
			}
			lists = longer
		}
	}
}

func TestBareAndNil(t *testing.T) {
	if l := Bare(of(t, 3, 0, 1)); !slices.EqualFunc(l, [][]int{{0}, {1}, {2}}, slices.Equal) {
		t.Errorf("P10.2: %v", l)
	}
	if !Linked(nil, nil) || Linked(nil, []int{0}) || !Canonical(nil, nil) || Canonical(nil, []int{0}) || len(Next(nil, nil)) != 0 || len(Next(nil, []int{0})) != 0 ||
		May(nil, nil, 0) || len(Grow(nil, nil)) != 0 || len(Bare(nil)) != 0 {
		t.Error("P10.2: nil")
	}
	if l, ok := List(nil, nil); !ok || len(l) != 0 {
		t.Error("P10.1: the empty list of nil")
	}
	if l, ok := List(nil, []int{0}); ok || l != nil {
		t.Error("P10.1: a list of nil")
	}
}
