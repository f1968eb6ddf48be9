package lines

import (
	"math"
	"math/rand"
	"slices"
	"testing"

	"fretwork/api"
	"fretwork/fault"
	"fretwork/graph"
	"fretwork/vert"
)

func of(t *testing.T, n int, ends ...int) *graph.Graph {
	t.Helper()
	var l []api.Edge
	for i := 0; i+1 < len(ends); i += 2 {
		l = append(l, api.Edge{A: ends[i], B: ends[i+1]})
	}
	g, err := graph.New(slices.Repeat([]int{3}, n), l)
	if err != nil {
		t.Fatal(err)
	}
	return g
}

func some(t *testing.T, r *rand.Rand, n int) *graph.Graph {
	var ends []int
	for a := range n {
		for b := range a {
			if r.Intn(2) == 0 {
				ends = append(ends, a, b)
			}
		}
	}
	return of(t, n, ends...)
}

func TestOf(t *testing.T) {
	triangle := of(t, 3, 0, 1, 0, 2, 1, 2)
	line, err := Of(triangle)
	if err != nil || line.Len() != 3 || line.Size() != 3 || line.Label(1) != 0 {
		t.Errorf("P11.1: of a triangle: %v", err)
	}
	r := rand.New(rand.NewSource(11))
	for range 30 {
		g := some(t, r, r.Intn(8))
		line, err := Of(g)
		if err != nil || line.Len() != g.Size() || line.Size() != Pairs(g) {
			t.Fatalf("P11.1: %v: %d pairs, not %d", err, Pairs(g), line.Size())
		}
		for a := range g.Size() {
			for b := range g.Size() {
				d, _ := g.Edge(a)
				e, _ := g.Edge(b)
				touch := a != b && (slices.Contains([]int{d.A, d.B}, e.A) || slices.Contains([]int{d.A, d.B}, e.B))
				if line.Has(a, b) != touch || Touch(g, a, b) != touch {
					t.Fatalf("P11.1: edges %v, %v", d, e)
				}
			}
		}
	}
	if line, err := Of(nil); err != nil || line == nil || line.Len() != 0 {
		t.Errorf("P11.1: of nil: %v", err)
	}
}

// star tells a vertex with so many others beside it.
func star(t *testing.T, n int) *graph.Graph {
	var ends []int
	for v := range n {
		ends = append(ends, 0, v+1)
	}
	return of(t, n+1, ends...)
}

func TestOfLarge(t *testing.T) {
	// 181 edges at one vertex make 16290 pairs, 182 make 16471.
	if line, err := Of(star(t, 181)); err != nil || line.Size() != 16290 || Pairs(star(t, 181)) != 16290 {
		t.Errorf("P11.1: %v", err)
	}
	var path []int
	for v := range api.MaxVertices - 1 {
		path = append(path, v, v+1)
	}
	ring := of(t, api.MaxVertices, append(path, 0, api.MaxVertices-1)...)
	if line, err := Of(ring); err != nil || line.Len() != api.MaxVertices {
		t.Errorf("P11.1: as many edges as may be: %v", err)
	}
	for i, g := range []*graph.Graph{star(t, 182), star(t, 4095), of(t, api.MaxVertices, append(path, 0, api.MaxVertices-1, 0, 7)...)} {
		line, err := Of(g)
		if line != nil || fault.Code(err) != api.Large || !slices.Equal(fault.Words(err), []string{"lines"}) {
			t.Errorf("P11.1: %d: %v", i, err)
		}
	}
}

func TestTouchAndPairsOfNothing(t *testing.T) {
	g := of(t, 3, 0, 1, 1, 2)
	for _, id := range []int{-1, 2, 0, math.MinInt, math.MaxInt} {
		if Touch(g, 0, id) || Touch(g, id, 0) || Touch(nil, 0, id) {
			t.Errorf("P11.1: edges 0 and %d", id)
		}
	}
	if Pairs(nil) != 0 || Pairs(of(t, 4, 0, 1, 2, 3)) != 0 || Pairs(star(t, 4)) != 6 {
		t.Error("P11.1: Pairs")
	}
}

func TestVertsAndEnds(t *testing.T) {
	g := of(t, 5, 0, 3, 1, 3, 1, 4, 2, 4)
	if v := Verts(g, []int{2, 0, 1, 2, 3}); !slices.Equal(v, []int{1, 4, 0, 3, 2}) {
		t.Errorf("P11.2: %v", v)
	}
	if v := Verts(g, []int{-1, 3, 4, 1, math.MaxInt}); !slices.Equal(v, []int{2, 4, 1, 3}) {
		t.Errorf("P11.2: numbers that are no edges: %v", v)
	}
	if e := Ends(g, []int{3, -1, 0, 9, 3}); !slices.Equal(e, []api.Edge{{A: 2, B: 4}, {A: 0, B: 3}, {A: 2, B: 4}}) {
		t.Errorf("P11.2: %v", e)
	}
	if len(Verts(g, nil)) != 0 || len(Ends(g, nil)) != 0 || len(Verts(nil, []int{0})) != 0 || len(Ends(nil, []int{0})) != 0 || len(Span(nil, []int{0, 1})) != 0 {
		t.Error("P11.2: nothing")
	}
}

func TestSpan(t *testing.T) {
	g := of(t, 5, 0, 3, 1, 3, 1, 4, 2, 4, 0, 1)
	for _, c := range []struct{ vertices, want []int }{
		{nil, nil}, {[]int{3}, nil}, {[]int{3, 1, 0, 1, -1, 9}, []int{0, 1, 2}}, {[]int{4, 3, 2, 1, 0}, []int{0, 1, 2, 3, 4}}, {[]int{2, 3}, nil},
	} {
		if ids := Span(g, c.vertices); !slices.Equal(ids, c.want) {
			t.Errorf("P11.2: %v: %v", c.vertices, ids)
		}
	}
}

func TestLinked(t *testing.T) {
	r := rand.New(rand.NewSource(111))
	for range 300 {
		g := some(t, r, 5)
		line, err := Of(g)
		if err != nil {
			t.Fatal(err)
		}
		l := r.Perm(g.Size())
		l = l[:min(len(l), 4)]
		stands := true
		for i := range l {
			ahead := Verts(g, l[:i])
			e := Ends(g, l[i:i+1])[0]
			stands = stands && (i == 0 || slices.Contains(ahead, e.A) || slices.Contains(ahead, e.B))
		}
		if vert.Linked(line, l) != stands {
			t.Fatalf("P11.3: %v", Ends(g, l))
		}
	}
}
