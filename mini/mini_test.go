package mini

import (
	"math/rand"
	"slices"
	"testing"

	"fretwork/api"
	"fretwork/canon"
	"fretwork/fault"
	"fretwork/graph"
	"fretwork/pat"
	"fretwork/quick"
	"fretwork/sets"
)

func of(labels []int, ends ...int) api.Pat {
	p := api.Pat{Labels: labels}
	for i := 0; i+1 < len(ends); i += 2 {
		p.Edges = append(p.Edges, api.Edge{A: ends[i], B: ends[i+1]})
	}
	return p
}

func graphOf(t *testing.T, p api.Pat) *graph.Graph {
	t.Helper()
	g, err := graph.New(p.Labels, p.Edges)
	if err != nil {
		t.Fatal(err)
	}
	return g
}

func some(r *rand.Rand, n, labels int) api.Pat {
	p := api.Pat{Labels: make([]int, n)}
	for a := range n {
		p.Labels[a] = r.Intn(labels)
		for b := a + 1; b < n; b++ {
			if r.Intn(5) < 2 {
				p.Edges = append(p.Edges, api.Edge{A: a, B: b})
			}
		}
	}
	return p
}

func must(t *testing.T, p api.Pat) *Domains {
	t.Helper()
	d, err := New(p)
	if err != nil {
		t.Fatal(err)
	}
	return d
}

func same(a, b [][]int) bool { return slices.EqualFunc(a, b, slices.Equal) }

func TestNew(t *testing.T) {
	p := of([]int{1, 1, 2}, 0, 2)
	form, _, err := canon.Form(p)
	if err != nil {
		t.Fatal(err)
	}
	d := must(t, form)
	if !same(d.Sets(), [][]int{nil, nil, nil}) || d.Support() != 0 || pat.Compare(d.Pat(), form) != 0 {
		t.Error("P15.1: a new one")
	}
	d.Pat().Labels[0], d.Pat().Edges[0], form.Labels[0], form.Edges[0] = 99, api.Edge{A: 7, B: 7}, 99, api.Edge{A: 7, B: 7}
	if pat.Right(d.Pat()) != nil {
		t.Error("P15.1: what is told is the caller's")
	}
	for i, c := range []struct {
		p        api.Pat
		code, at int
	}{
		{api.Pat{}, api.Form, 0}, {of([]int{2, 1}), api.Form, 0}, {of([]int{0, 0, 0}, 1, 2), api.Form, 0},
		{of(make([]int, 9)), api.Large, 0}, {of([]int{2, 1, 256}), api.Range, 2}, {of([]int{0, 0}, 0, 5), api.Range, 0}, {of([]int{0, 0}, 1, 0), api.Form, 0},
	} {
		if d, err := New(c.p); d != nil || fault.Code(err) != c.code || fault.At(err) != c.at {
			t.Errorf("P15.1: %d: %v", i, err)
		}
	}
}

func TestTake(t *testing.T) {
	// A path of three: its ends may change places.
	d := must(t, of([]int{0, 0, 0}, 0, 1, 0, 2))
	image := []int{5, 9, 4}
	if err := d.Take(image); err != nil {
		t.Error(err)
	}
	image[0] = 77
	if !same(d.Sets(), [][]int{{5}, {4, 9}, {4, 9}}) || d.Support() != 1 {
		t.Errorf("P15.1: %v", d.Sets())
	}
	if err := d.Take([]int{4, 5, -2}); err != nil || !same(d.Sets(), [][]int{{4, 5}, {-2, 4, 5, 9}, {-2, 4, 5, 9}}) || d.Support() != 2 {
		t.Errorf("P15.1: %v, %v", d.Sets(), err)
	}
	for _, l := range [][]int{nil, {1, 2}, {1, 2, 3, 4}, {1, 2, 1}, {1, 1, 2}} {
		if err := d.Take(l); fault.Code(err) != api.Arg {
			t.Errorf("P15.1: %v: %v", l, err)
		}
	}
	d.Sets()[0][0] = 99
	if !same(d.Sets(), [][]int{{4, 5}, {-2, 4, 5, 9}, {-2, 4, 5, 9}}) {
		t.Error("P15.1: sets are in new memory")
	}
}

func TestTakeByOwnOrders(t *testing.T) {
	r := rand.New(rand.NewSource(15))
	for range 100 {
		form, _, _ := canon.Form(some(r, 1+r.Intn(5), 2))
		d := must(t, form)
		own, _ := canon.Own(form)
		want := make([][]int, len(form.Labels))
		for range r.Intn(4) {
			image := r.Perm(9)[:len(form.Labels)]
			if err := d.Take(image); err != nil {
				t.Fatal(err)
			}
			for _, o := range own {
				for i, v := range image {
					want[o[i]] = sets.Add(want[o[i]], v)
				}
			}
		}
		least := 99
		for _, s := range want {
			least = min(least, len(s))
		}
		if !same(d.Sets(), want) || d.Support() != least {
			t.Fatalf("P15.1: %s: %v, not %v", pat.Text(form), d.Sets(), want)
		}
	}
}

func TestMerge(t *testing.T) {
	p := of([]int{0, 1}, 0, 1)
	d, e := must(t, p), must(t, p)
	for _, err := range []error{d.Take([]int{1, 2}), d.Take([]int{3, 2}), e.Take([]int{3, 4}), d.Merge(e), d.Merge(d)} {
		if err != nil {
			t.Error(err)
		}
	}
	if !same(d.Sets(), [][]int{{1, 3}, {2, 4}}) || !same(e.Sets(), [][]int{{3}, {4}}) {
		t.Errorf("P15.1: %v and %v", d.Sets(), e.Sets())
	}
	if err := e.Take([]int{8, 9}); err != nil || d.Support() != 2 {
		t.Error("P15.1: what was merged is its own")
	}
	for _, q := range []api.Pat{of([]int{0, 1}), of([]int{0, 0}, 0, 1), of([]int{0})} {
		if err := d.Merge(must(t, q)); fault.Code(err) != api.Arg {
			t.Errorf("P15.1: %s: %v", pat.Text(q), err)
		}
	}
	var nobody *Domains
	for i, err := range []error{d.Merge(nil), nobody.Merge(d), nobody.Merge(nil), nobody.Take(nil)} {
		if fault.Code(err) != api.Nil {
			t.Errorf("P15.1: %d: %v", i, err)
		}
	}
	if nobody.Sets() != nil || nobody.Support() != 0 || nobody.Pat().Labels != nil {
		t.Error("P15.2: nil")
	}
	zero := new(Domains)
	if zero.Take([]int{1}) == nil || zero.Take(nil) != nil || zero.Support() != 0 || zero.Merge(zero) != nil {
		t.Error("P15.1: a zero one")
	}
}

func TestAll(t *testing.T) {
	path := graphOf(t, of([]int{0, 0, 0}, 0, 1, 1, 2))
	edge := of([]int{0, 0}, 0, 1)
	images, e1 := All(path, edge)
	n, e2 := Support(path, edge)
	if e1 != nil || e2 != nil || n != 3 || !same(images, [][]int{{0, 1, 2}, {0, 1, 2}}) {
		t.Errorf("P15.2: %v, %d", images, n)
	}
	r := rand.New(rand.NewSource(152))
	for range 300 {
		g := graphOf(t, some(r, r.Intn(8), 2))
		p := some(r, 1+r.Intn(5), 2)
		want := make([][]int, len(p.Labels))
		for _, image := range quick.Images(g, p, false) {
			for v, u := range image {
				want[v] = sets.Add(want[v], u)
			}
		}
		least := 99
		for _, l := range want {
			least = min(least, len(l))
		}
		images, e1 := All(g, p)
		n, e2 := Support(g, p)
		if e1 != nil || e2 != nil || !same(images, want) || n != least {
			t.Fatalf("P15.2: %s: %v, not %v; %d", pat.Text(p), images, want, n)
		}
	}
}

func TestAllErrors(t *testing.T) {
	g := graphOf(t, of([]int{0, 0}, 0, 1))
	for i, c := range []struct {
		p        api.Pat
		code, at int
	}{{api.Pat{}, api.Form, 0}, {of(make([]int, 9)), api.Large, 0}, {of([]int{0, -1}), api.Range, 1}, {of([]int{0, 0}, 1, 0), api.Form, 0}} {
		images, e1 := All(g, c.p)
		n, e2 := Support(g, c.p)
		if images != nil || n != 0 || fault.Code(e1) != c.code || fault.Code(e2) != c.code || fault.At(e1) != c.at || fault.At(e2) != c.at {
			t.Errorf("P15.2: %d: %v, %v", i, e1, e2)
		}
	}
	if images, err := All(nil, of([]int{0})); err != nil || !same(images, [][]int{nil}) {
		t.Errorf("P15.2: in nil: %v, %v", images, err)
	}
	if n, err := Support(nil, of([]int{0, 0})); err != nil || n != 0 {
		t.Errorf("P15.2: in nil: %d, %v", n, err)
	}
}

func TestManyImages(t *testing.T) {
	star := of(make([]int, 61))
	for v := range 60 {
		star.Edges = append(star.Edges, api.Edge{A: 0, B: v + 1})
	}
	g := graphOf(t, star)
	small := of(make([]int, 8), 0, 1, 0, 2, 0, 3, 0, 4, 0, 5, 0, 6, 0, 7)
	images, err := All(g, small)
	if err != nil || len(images[0]) != 1 || len(images[7]) != 60 {
		t.Errorf("P15.2: a star: %v", err)
	}
	if n, err := Support(g, of(make([]int, 8))); err != nil || n != 61 {
		t.Errorf("P15.2: no edges: %d, %v", n, err)
	}
}

func TestDomainsOfAllImages(t *testing.T) {
	r := rand.New(rand.NewSource(153))
	for range 150 {
		g := graphOf(t, some(r, 2+r.Intn(6), 2))
		p := some(r, 1+r.Intn(4), 2)
		form, _, _ := canon.Form(p)
		d := must(t, form)
		for _, image := range quick.Images(g, form, false) {
			if err := d.Take(image); err != nil {
				t.Fatal(err)
			}
		}
		images, _ := All(g, form)
		n, _ := Support(g, p)
		if !same(d.Sets(), images) || d.Support() != n {
			t.Fatalf("P15.3: %s: %v, not %v", pat.Text(form), d.Sets(), images)
		}
		for _, e := range p.Edges {
			less, err := pat.Less(p, e)
			if m, other := Support(g, less); err != nil || other != nil || m < n {
				t.Fatalf("P15.3: %s without %v: %d, less than %d", pat.Text(p), e, m, n)
			}
		}
	}
}
