package quick

import (
	"math"
	"math/rand"
	"slices"
	"testing"

	"fretwork/api"
	"fretwork/canon"
	"fretwork/fault"
	"fretwork/graph"
	"fretwork/lines"
	"fretwork/pat"
	"fretwork/vert"
)

func of(t *testing.T, labels []int, ends ...int) *graph.Graph {
	t.Helper()
	var l []api.Edge
	for i := 0; i+1 < len(ends); i += 2 {
		l = append(l, api.Edge{A: ends[i], B: ends[i+1]})
	}
	g, err := graph.New(labels, l)
	if err != nil {
		t.Fatal(err)
	}
	return g
}

func some(t *testing.T, r *rand.Rand, n, labels int) *graph.Graph {
	var ends []int
	l := make([]int, n)
	for a := range n {
		l[a] = r.Intn(labels)
		for b := range a {
			if r.Intn(2) == 0 {
				ends = append(ends, a, b)
			}
		}
	}
	return of(t, l, ends...)
}

func none(p api.Pat) bool { return p.Labels == nil && p.Edges == nil }

// path tells a path of n vertices, labels from 0 on.
func path(t *testing.T, n int) *graph.Graph {
	labels := make([]int, n)
	var ends []int
	for v := range n - 1 {
		labels[v+1] = v + 1
		ends = append(ends, v, v+1)
	}
	return of(t, labels, ends...)
}

func TestVert(t *testing.T) {
	triangle := of(t, []int{4, 5, 6}, 0, 1, 0, 2, 1, 2)
	for _, c := range []struct {
		l    []int
		want string
	}{{nil, "|"}, {[]int{1}, "5|"}, {[]int{2, 0}, "6,4|0-1"}, {[]int{2, 0, 1}, "6,4,5|0-1,0-2,1-2"}} {
		if p, err := Vert(triangle, c.l); err != nil || pat.Text(p) != c.want {
			t.Errorf("P12.1: %v: %s, %v", c.l, pat.Text(p), err)
		}
	}
	g := path(t, 9)
	if p, err := Vert(g, []int{3, 4, 2, 1, 5, 0, 6, 7}); err != nil || pat.Text(p) != "3,4,2,1,5,0,6,7|0-1,0-2,1-4,2-3,3-5,4-6,6-7" {
		t.Errorf("P12.1: %s, %v", pat.Text(p), err)
	}
	for _, c := range []struct {
		l    []int
		code int
	}{
		{[]int{0, 1, 2, 3, 4, 5, 6, 7, 8}, api.Large}, {[]int{-1, -1, -1, -1, -1, -1, -1, -1, -1}, api.Large},
		{[]int{0, 2}, api.Form}, {[]int{0, 0}, api.Form}, {[]int{9}, api.Form}, {[]int{math.MinInt}, api.Form}, {[]int{0, 1, 3}, api.Form},
	} {
		if p, err := Vert(g, c.l); !none(p) || fault.Code(err) != c.code {
			t.Errorf("P12.1: %v: %v", c.l, err)
		}
	}
	if _, err := Vert(nil, []int{0}); fault.Code(err) != api.Form {
		t.Error("P12.1: nil")
	}
	if p, err := Vert(nil, nil); err != nil || pat.Text(p) != "|" {
		t.Error("P12.1: nothing of nil")
	}
}

func TestEdge(t *testing.T) {
	triangle := of(t, []int{4, 5, 6}, 0, 1, 0, 2, 1, 2)
	for _, c := range []struct {
		l        []int
		want     string
		vertices []int
	}{
		{nil, "|", nil}, {[]int{2}, "5,6|0-1", []int{1, 2}}, {[]int{2, 0}, "5,6,4|0-1,0-2", []int{1, 2, 0}},
		{[]int{1, 2, 0}, "4,6,5|0-1,0-2,1-2", []int{0, 2, 1}},
	} {
		p, vertices, err := Edge(triangle, c.l)
		if err != nil || pat.Text(p) != c.want || !slices.Equal(vertices, c.vertices) || pat.Right(p) != nil {
			t.Errorf("P12.1: %v: %s of %v, %v", c.l, pat.Text(p), vertices, err)
		}
	}
	g := path(t, 10)
	if p, vertices, err := Edge(g, []int{3, 4, 2, 1, 5, 0, 6}); err != nil || len(p.Labels) != 8 || len(vertices) != 8 {
		t.Errorf("P12.1: 8 vertices: %v", err)
	}
	for _, c := range []struct {
		l    []int
		code int
	}{
		{[]int{0, 2}, api.Form}, {[]int{0, 1, 0}, api.Form}, {[]int{9}, api.Form}, {[]int{-1}, api.Form}, {[]int{math.MaxInt}, api.Form},
		{[]int{0, 1, 2, 3, 4, 5, 6, 7}, api.Large}, {[]int{0, 1, 2, 3, 4, 5, 6, 7, 7}, api.Form}, {[]int{0, 1, 2, 3, 4, 5, 6, 8}, api.Form},
	} {
		if p, vertices, err := Edge(g, c.l); !none(p) || vertices != nil || fault.Code(err) != c.code {
			t.Errorf("P12.1: %v: %v", c.l, err)
		}
	}
	if _, _, err := Edge(nil, []int{0}); fault.Code(err) != api.Form {
		t.Error("P12.1: nil")
	}
}

func TestEdgeWhereLineGraphIsTooLarge(t *testing.T) {
	var ends []int
	for v := range 300 {
		ends = append(ends, 0, v+1)
	}
	g := of(t, make([]int, 301), ends...)
	if _, err := lines.Of(g); err == nil {
		t.Fatal("the line graph isn't too large")
	}
	if p, _, err := Edge(g, []int{299, 5}); err != nil || pat.Text(p) != "0,0,0|0-1,0-2" {
		t.Errorf("P12.1: %s, %v", pat.Text(p), err)
	}
}

func TestEdgeIsLinked(t *testing.T) {
	r := rand.New(rand.NewSource(12))
	for range 300 {
		g := some(t, r, 6, 3)
		line, err := lines.Of(g)
		if err != nil {
			t.Fatal(err)
		}
		l := r.Perm(g.Size())
		l = l[:min(len(l), r.Intn(5))]
		_, vertices, err := Edge(g, l)
		if (err == nil) != vert.Linked(line, l) || (err == nil && !slices.Equal(vertices, lines.Verts(g, l))) {
			t.Fatalf("P12.1: %v: %v", l, err)
		}
	}
}

func TestForm(t *testing.T) {
	p := api.Pat{Labels: []int{5, 2, 2}, Edges: []api.Edge{{A: 0, B: 2}}}
	form, vertices, err := Form(p, []int{70, 80, 90})
	if err != nil || pat.Text(form) != "2,2,5|0-2" || !slices.Equal(vertices, []int{90, 80, 70}) {
		t.Errorf("P12.2: %s of %v, %v", pat.Text(form), vertices, err)
	}
	if form, vertices, err := Form(api.Pat{}, nil); err != nil || len(form.Labels)+len(vertices) != 0 {
		t.Errorf("P12.2: nothing: %v", err)
	}
	for _, l := range [][]int{nil, {1, 2}, {1, 2, 3, 4}} {
		if form, vertices, err := Form(p, l); !none(form) || vertices != nil || fault.Code(err) != api.Arg {
			t.Errorf("P12.2: %v: %v", l, err)
		}
	}
	wrong := api.Pat{Labels: []int{1, 300}}
	if form, vertices, err := Form(wrong, nil); !none(form) || vertices != nil || fault.Code(err) != api.Range || fault.At(err) != 1 {
		t.Errorf("P12.2: what isn't right: %v", err)
	}
}

// images tells all images by trying all lists.
func images(g *graph.Graph, p api.Pat, whole bool) [][]int {
	lists := [][]int{nil}
	for range p.Labels {
		var longer [][]int
		for _, l := range lists {
			for v := range g.Len() {
				if !slices.Contains(l, v) {
					longer = append(longer, append(slices.Clone(l), v))
				}
			}
		}
		lists = longer
	}
	return slices.DeleteFunc(lists, func(l []int) bool {
		for a, v := range l {
			for b, u := range l[:a] {
				if has := g.Has(u, v); (pat.Has(p, a, b) && !has) || (whole && has && !pat.Has(p, a, b)) {
					return true
				}
			}
			if g.Label(v) != p.Labels[a] {
				return true
			}
		}
		return false
	})
}

func TestImages(t *testing.T) {
	r := rand.New(rand.NewSource(120))
	for range 200 {
		g := some(t, r, r.Intn(7), 2)
		small := some(t, r, 1+r.Intn(4), 2)
		p := api.Pat{Labels: labelsOf(small, vert.Next(small, nil)), Edges: lines.Ends(small, lines.Span(small, vert.Next(small, nil)))}
		for _, whole := range []bool{false, true} {
			if got, want := Images(g, p, whole), images(g, p, whole); !slices.EqualFunc(got, want, slices.Equal) {
				t.Fatalf("P12.2: %s, whole %v: %v, not %v", pat.Text(p), whole, got, want)
			}
		}
	}
	g := path(t, 4)
	for i, p := range []api.Pat{{}, {Labels: make([]int, 9)}, {Labels: []int{0, 1}, Edges: []api.Edge{{A: 1, B: 0}}}, {Labels: []int{-1}}} {
		if len(Images(g, p, false)) != 0 || len(Images(g, p, true)) != 0 {
			t.Errorf("P12.2: images of %d", i)
		}
	}
	if len(Images(nil, api.Pat{Labels: []int{0}}, false)) != 0 {
		t.Error("P12.2: images in nil")
	}
}

func TestListsAreImages(t *testing.T) {
	r := rand.New(rand.NewSource(121))
	for range 200 {
		g := some(t, r, 7, 2)
		l := r.Perm(7)[:1+r.Intn(4)]
		p, err := Vert(g, l)
		if err != nil {
			continue
		}
		if !slices.ContainsFunc(Images(g, p, true), func(image []int) bool { return slices.Equal(image, l) }) {
			t.Errorf("P12.3: %v is no image", l)
		}
		list, _ := vert.List(g, l)
		if q, err := Vert(g, list); err != nil || !canon.Alike(p, q) {
			t.Errorf("P12.3: %v and %v aren't alike", l, list)
		}
		line, _ := lines.Of(g)
		es := lines.Span(g, l)
		if list, ok := vert.List(line, es); ok {
			slices.Reverse(es)
			a, _, e1 := Edge(g, list)
			b, _, e2 := Edge(g, es)
			if e1 != nil || (e2 == nil && !canon.Alike(a, b)) {
				t.Errorf("P12.3: %v and %v aren't alike", list, es)
			}
		}
	}
}
