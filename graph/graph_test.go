package graph

import (
	"math"
	"math/rand"
	"slices"
	"testing"

	"fretwork/api"
	"fretwork/fault"
)

func edges(ends ...int) []api.Edge {
	var l []api.Edge
	for i := 0; i+1 < len(ends); i += 2 {
		l = append(l, api.Edge{A: ends[i], B: ends[i+1]})
	}
	return l
}

// must tells a graph that can be.
func must(t *testing.T, labels []int, l []api.Edge) *Graph {
	t.Helper()
	g, err := New(labels, l)
	if err != nil {
		t.Fatalf("P4.1: %v", err)
	}
	return g
}

func TestNewErrors(t *testing.T) {
	long, many := make([]int, api.MaxVertices+1), make([]api.Edge, api.MaxEdges+1)
	long[0] = -1
	for i, c := range []struct {
		labels   []int
		edges    []api.Edge
		code, at int
	}{
		{long, nil, api.Large, 0},
		{[]int{999}, many, api.Large, 0},
		{[]int{0, 5, -1, 256}, edges(0, 0), api.Range, 2},
		{[]int{0, 255, 256, -1}, nil, api.Range, 2},
		{[]int{math.MaxInt}, nil, api.Range, 0},
		{[]int{1, 1}, edges(0, 1, 0, 2), api.Range, 1},
		{[]int{1, 1}, edges(0, 1, -1, 1), api.Range, 1},
		{[]int{1, 1}, edges(2, 2), api.Range, 0},
		{[]int{1, 1}, edges(math.MinInt, math.MaxInt), api.Range, 0},
		{nil, edges(0, 1), api.Range, 0},
		{[]int{1, 1, 1}, edges(0, 1, 2, 2, 5, 5), api.Arg, 1},
		{[]int{1, 1, 1}, edges(0, 1, 1, 2, 0, 1), api.There, 2},
		{[]int{1, 1, 1}, edges(0, 1, 1, 0, 2, 2), api.There, 1},
	} {
		g, err := New(c.labels, c.edges)
		if g != nil || fault.Code(err) != c.code || fault.At(err) != c.at {
			t.Errorf("P4.1: %d: %v at %d", i, err, fault.At(err))
		}
	}
}

func TestLargest(t *testing.T) {
	labels := make([]int, api.MaxVertices)
	labels[7] = api.MaxLabel
	var l []api.Edge
	for i := range api.MaxEdges {
		l = append(l, api.Edge{A: i % api.MaxVertices, B: (i + 1 + i/api.MaxVertices) % api.MaxVertices})
	}
	if g := must(t, labels, l); g.Len() != api.MaxVertices || g.Size() != api.MaxEdges || g.Label(7) != api.MaxLabel || g.Degree(9) != 8 {
		t.Error("P4.1: the largest graph")
	}
}

func TestExample(t *testing.T) {
	g := must(t, []int{0, 0, 1}, edges(2, 1, 0, 1))
	for id, want := range edges(0, 1, 1, 2) {
		if e, ok := g.Edge(id); !ok || e != want {
			t.Errorf("P4.2: edge %d is %v", id, e)
		}
	}
}

func TestAsked(t *testing.T) {
	g := must(t, []int{3, 4, 5, 6, 7}, edges(3, 1, 0, 3, 2, 0, 3, 2))
	if g.Len() != 5 || g.Size() != 4 || g.Label(4) != 7 || g.Degree(3) != 3 || g.Degree(4) != 0 {
		t.Error("P4.2: Len, Size, Label, Degree")
	}
	if !slices.Equal(g.Near(3), []int{0, 1, 2}) || !slices.Equal(g.Near(0), []int{2, 3}) || len(g.Near(4)) != 0 {
		t.Error("P4.2: Near")
	}
	if !slices.Equal(g.At(3), []int{1, 2, 3}) || !slices.Equal(g.At(0), []int{0, 1}) || len(g.At(4)) != 0 {
		t.Error("P4.2: At")
	}
	for id, e := range edges(0, 2, 0, 3, 1, 3, 2, 3) {
		if got, ok := g.Edge(id); got != e || !ok || g.Id(e.A, e.B) != id || g.Id(e.B, e.A) != id || !g.Has(e.A, e.B) || !g.Has(e.B, e.A) {
			t.Errorf("P4.2: edge %d", id)
		}
	}
	for _, e := range edges(0, 1, 0, 0, 4, 0, 0, 5, 5, 0, -1, 0, 0, -1, math.MaxInt, math.MinInt) {
		if g.Has(e.A, e.B) || g.Id(e.A, e.B) != -1 {
			t.Errorf("P4.2: %v is no edge", e)
		}
	}
	for _, v := range []int{-1, 5, math.MaxInt, math.MinInt} {
		e, ok := g.Edge(v)
		if g.Label(v) != -1 || g.Near(v) != nil || g.Degree(v) != 0 || g.At(v) != nil || ok || e != (api.Edge{}) {
			t.Errorf("P4.2: %d is no vertex and no edge", v)
		}
	}
}

func TestOwnMemory(t *testing.T) {
	labels, l := []int{1, 2, 3}, edges(1, 0, 2, 1)
	g := must(t, labels, l)
	labels[0], l[0] = 9, api.Edge{A: 0, B: 2}
	g.Near(1)[0], g.At(1)[0] = 7, 7
	if g.Label(0) != 1 || !g.Has(0, 1) || g.Has(0, 2) || g.Near(1)[0] != 0 || g.At(1)[0] != 0 {
		t.Error("P4.2: what is told, or handed in, is the caller's")
	}
}

func TestNil(t *testing.T) {
	var g *Graph
	if e, ok := g.Edge(0); ok || e != (api.Edge{}) {
		t.Error("P4.2: an edge of nil")
	}
	if g.Len() != 0 || g.Size() != 0 || g.Label(0) != -1 || g.Near(0) != nil || g.Degree(0) != 0 || g.Has(0, 1) || g.Id(0, 1) != -1 || g.At(0) != nil {
		t.Error("P4.2: nil")
	}
	empty := must(t, nil, nil)
	if !g.Same(nil) || g.Same(empty) || empty.Same(nil) || !empty.Same(must(t, []int{}, nil)) {
		t.Error("P4.2: Same of nil")
	}
}

func TestSame(t *testing.T) {
	g := must(t, []int{1, 2, 3}, edges(0, 1))
	for i, h := range []*Graph{must(t, []int{1, 2, 4}, edges(0, 1)), must(t, []int{1, 2, 3}, edges(0, 2)),
		must(t, []int{1, 2, 3}, nil), must(t, []int{1, 2, 3, 0}, edges(0, 1))} {
		if g.Same(h) || h.Same(g) {
			t.Errorf("P4.2: %d is the same", i)
		}
	}
	if !g.Same(g) || !g.Same(must(t, []int{1, 2, 3}, edges(1, 0))) {
		t.Error("P4.2: Same")
	}
}

func TestOrderPlaysNoPart(t *testing.T) {
	r := rand.New(rand.NewSource(4))
	for range 50 {
		labels := make([]int, 1+r.Intn(12))
		var l []api.Edge
		for a := range labels {
			for b := range a {
				if r.Intn(3) == 0 {
					l = append(l, api.Edge{A: b, B: a})
				}
			}
		}
		g := must(t, labels, l)
		r.Shuffle(len(l), func(i, j int) { l[i], l[j] = l[j], l[i] })
		for i, e := range l {
			if r.Intn(2) == 0 {
				l[i] = api.Edge{A: e.B, B: e.A}
			}
		}
		h := must(t, labels, l)
		if !g.Same(h) {
			t.Errorf("P4.3: %v", l)
		}
		for v := range labels {
			if !slices.Equal(g.Near(v), h.Near(v)) || !slices.Equal(g.At(v), h.At(v)) || !slices.IsSorted(h.Near(v)) || !slices.IsSorted(h.At(v)) || h.Degree(v) != len(h.Near(v)) {
				t.Errorf("P4.3: at %d of %v", v, l)
			}
		}
	}
}
