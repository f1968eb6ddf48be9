package canon

import (
	"math/rand"
	"slices"
	"testing"

	"fretwork/api"
	"fretwork/fault"
	"fretwork/pat"
	"fretwork/perm"
)

func of(labels []int, ends ...int) api.Pat {
	p := api.Pat{Labels: labels}
	for i := 0; i+1 < len(ends); i += 2 {
		p.Edges = append(p.Edges, api.Edge{A: ends[i], B: ends[i+1]})
	}
	return p
}

// some tells a random pattern of n vertices.
func some(r *rand.Rand, n, labels int) api.Pat {
	p := api.Pat{Labels: make([]int, n)}
	edges := r.Intn(5)
	for a := range n {
		p.Labels[a] = r.Intn(labels)
		for b := a + 1; b < n; b++ {
			if r.Intn(4) < edges {
				p.Edges = append(p.Edges, api.Edge{A: a, B: b})
			}
		}
	}
	return p
}

func turn(t *testing.T, p api.Pat, order []int) api.Pat {
	t.Helper()
	q, err := pat.Turn(p, order)
	if err != nil {
		t.Fatal(err)
	}
	return q
}

func same(p, q api.Pat) bool { return pat.Compare(p, q) == 0 }

// check holds a pattern against all that it can be turned to.
func check(t *testing.T, p api.Pat) {
	t.Helper()
	n := len(p.Labels)
	least, witness := p, perm.Id(n)
	var own [][]int
	for order := range perm.All(n) {
		q := turn(t, p, order)
		if pat.Compare(q, least) < 0 {
			least, witness = q, order
		}
		if same(q, p) {
			own = append(own, order)
		}
	}
	form, w, err := Form(p)
	if err != nil || !same(form, least) || !slices.Equal(w, witness) {
		t.Fatalf("P9.1: the form of %s: %s by %v, not %s by %v", pat.Text(p), pat.Text(form), w, pat.Text(least), witness)
	}
	if key, err := Key(p); err != nil || key != pat.Text(least) || Is(p) != same(p, least) || !Is(form) {
		t.Fatalf("P9.1: Key, Is of %s", pat.Text(p))
	}
	if l, err := Own(p); err != nil || !slices.EqualFunc(l, own, slices.Equal) {
		t.Fatalf("P9.2: %d own orders of %s, not %d", len(l), pat.Text(p), len(own))
	}
	var orbits [][]int
	for v := range n {
		var orbit []int
		for _, order := range own {
			orbit = append(orbit, order[v])
		}
		slices.Sort(orbit)
		if orbit = slices.Compact(orbit); orbit[0] == v {
			orbits = append(orbits, orbit)
		}
	}
	if l, err := Orbits(p); err != nil || !slices.EqualFunc(l, orbits, slices.Equal) {
		t.Fatalf("P9.2: orbits of %s: %v, not %v", pat.Text(p), l, orbits)
	}
}

func TestForm(t *testing.T) {
	form, w, err := Form(of([]int{5, 2}, 0, 1))
	if err != nil || pat.Text(form) != "2,5|0-1" || !slices.Equal(w, []int{1, 0}) {
		t.Errorf("P9.1: %s by %v", pat.Text(form), w)
	}
	if form, w, err := Form(api.Pat{}); err != nil || len(form.Labels) != 0 || len(w) != 0 {
		t.Errorf("P9.1: the form of nothing: %v", err)
	}
	r := rand.New(rand.NewSource(9))
	for n := range 6 {
		for range 60 {
			check(t, some(r, n, 1+r.Intn(3)))
		}
	}
	for range 4 {
		check(t, some(r, 7, 2))
	}
}

func TestGreat(t *testing.T) {
	circle := of(make([]int, 8), 0, 1, 0, 7, 1, 2, 2, 3, 3, 4, 4, 5, 5, 6, 6, 7)
	cube := of(make([]int, 8), 0, 1, 0, 2, 0, 4, 1, 3, 1, 5, 2, 3, 2, 6, 3, 7, 4, 5, 4, 6, 5, 7, 6, 7)
	star := of(make([]int, 8), 0, 7, 1, 7, 2, 7, 3, 7, 4, 7, 5, 7, 6, 7)
	var whole api.Pat
	for a := range 8 {
		whole.Labels = append(whole.Labels, 0)
		for b := a + 1; b < 8; b++ {
			whole.Edges = append(whole.Edges, api.Edge{A: a, B: b})
		}
	}
	r := rand.New(rand.NewSource(99))
	for i, c := range []struct {
		p           api.Pat
		own, orbits int
	}{{circle, 16, 1}, {cube, 48, 1}, {star, 5040, 2}, {whole, 40320, 1}, {of(make([]int, 8)), 40320, 1}, {of([]int{7, 6, 5, 4, 3, 2, 1, 0}), 1, 8}} {
		own, e1 := Own(c.p)
		orbits, e2 := Orbits(c.p)
		if e1 != nil || e2 != nil || len(own) != c.own || len(orbits) != c.orbits {
			t.Errorf("P9.2: %d: %d own, %d orbits", i, len(own), len(orbits))
		}
		form, _, _ := Form(c.p)
		for range 5 {
			q := turn(t, c.p, r.Perm(8))
			other, w, err := Form(q)
			if err != nil || !same(form, other) || !same(turn(t, q, w), form) || !Alike(c.p, q) {
				t.Errorf("P9.3: %d: the form", i)
			}
		}
	}
	if Alike(circle, cube) || Alike(of(make([]int, 6), 0, 1, 0, 2, 1, 2, 3, 4, 3, 5, 4, 5), of(make([]int, 6), 0, 1, 0, 5, 1, 2, 2, 3, 3, 4, 4, 5)) {
		t.Error("P9.1: Alike")
	}
}

func TestMap(t *testing.T) {
	r := rand.New(rand.NewSource(19))
	for range 200 {
		n := r.Intn(5)
		p, q := some(r, n, 2), some(r, n, 2)
		if r.Intn(2) == 0 {
			q = turn(t, p, r.Perm(n))
		}
		var want []int
		ok := false
		for order := range perm.All(n) {
			if !ok && same(turn(t, p, order), q) {
				want, ok = order, true
			}
		}
		if got, may := Map(p, q); may != ok || !slices.Equal(got, want) || Alike(p, q) != ok {
			t.Errorf("P9.1: from %s to %s: %v, %v", pat.Text(p), pat.Text(q), got, may)
		}
	}
	for _, q := range []api.Pat{of([]int{0, 0, 0}), of([]int{0, 0, 0}, 0, 1), of([]int{0, 1}, 0, 1), of([]int{0, 0}), {}} {
		if order, ok := Map(of([]int{0, 0}, 0, 1), q); ok || order != nil {
			t.Errorf("P9.1: %v", q)
		}
	}
}

func TestWrong(t *testing.T) {
	right := of([]int{0, 0}, 0, 1)
	for i, p := range []api.Pat{of(make([]int, 9)), of([]int{256}), of([]int{0}, 0, 1), of([]int{0, 0}, 1, 0), of([]int{0, 0}, -1, 0)} {
		err := pat.Right(p)
		form, w, e1 := Form(p)
		key, e2 := Key(p)
		own, e3 := Own(p)
		orbits, e4 := Orbits(p)
		for _, e := range []error{e1, e2, e3, e4} {
			if fault.Code(e) != fault.Code(err) || fault.At(e) != fault.At(err) {
				t.Errorf("P9.1: %d: %v, not %v", i, e, err)
			}
		}
		order, ok := Map(p, right)
		back, may := Map(right, p)
		if form.Labels != nil || form.Edges != nil || w != nil || key != "" || own != nil || orbits != nil || order != nil || ok || back != nil || may ||
			Is(p) || Alike(p, p) || Alike(p, right) || Alike(right, p) {
			t.Errorf("P9.1: %d: answers of what isn't right", i)
		}
	}
}

func TestManyOrders(t *testing.T) {
	r := rand.New(rand.NewSource(29))
	for range 30 {
		p := some(r, 1+r.Intn(5), 2)
		own, _ := Own(p)
		times := map[string]int{}
		for order := range perm.All(len(p.Labels)) {
			q := turn(t, p, order)
			times[pat.Text(q)]++
			if key, _ := Key(q); key != pat.Text(least(p)) {
				t.Errorf("P9.3: %s and %s", pat.Text(p), pat.Text(q))
			}
		}
		for text, n := range times {
			if n != len(own) {
				t.Errorf("P9.3: %d orders to %s, %d own ones", n, text, len(own))
			}
		}
		form, _, _ := Form(p)
		if again, w, _ := Form(form); !same(again, form) || !slices.Equal(w, perm.Id(len(w))) {
			t.Errorf("P9.3: the form of %s", pat.Text(form))
		}
	}
}
