package prog

import (
	"math"
	"math/rand"
	"slices"
	"strings"
	"testing"

	"fretwork/api"
	"fretwork/fault"
	"fretwork/pat"
	"fretwork/sets"
)

func of(labels []int, ends ...int) api.Pat {
	p := api.Pat{Labels: labels}
	for i := 0; i+1 < len(ends); i += 2 {
		p.Edges = append(p.Edges, api.Edge{A: ends[i], B: ends[i+1]})
	}
	return p
}

func some(r *rand.Rand, n, labels int) api.Pat {
	p := api.Pat{Labels: make([]int, n)}
	for a := range n {
		p.Labels[a] = r.Intn(labels)
		for b := a + 1; b < n; b++ {
			if r.Intn(3) > 0 {
				p.Edges = append(p.Edges, api.Edge{A: a, B: b})
			}
		}
	}
	return p
}

func TestKinds(t *testing.T) {
	names := []string{"", "clique", "labels", "degree", "size", "edges", "unlike", "only", "free", ""}
	for kind, name := range names {
		if Name(kind) != name || (name != "" && Kind(name) != kind) {
			t.Errorf("P17.2: %d: %q", kind, Name(kind))
		}
	}
	if Clique != 1 || Free != 8 || Name(-1) != "" || Name(math.MaxInt) != "" || Name(math.MinInt) != "" {
		t.Error("P17.2: Name")
	}
	for _, name := range []string{"", "Clique", "clique ", "cliques", "x"} {
		if Kind(name) != 0 {
			t.Errorf("P17.2: %q", name)
		}
	}
}

func TestRight(t *testing.T) {
	for _, p := range []Prog{nil, {}, {{Clique, 0}, {Labels, 0}, {Degree, 255}, {Size, 8}, {Edges, 3}, {Unlike, 0}, {Only, 7}, {Free, 0}}, slices.Repeat(Prog{{Free, 0}}, 16)} {
		if err := Right(p); err != nil {
			t.Errorf("P17.1: %v: %v", p, err)
		}
	}
	for i, c := range []struct {
		p        Prog
		code, at int
	}{
		{slices.Repeat(Prog{{99, 0}}, 17), api.Large, 0}, {Prog{{Free, 0}, {0, 0}, {9, 0}}, api.Arg, 1}, {Prog{{9, -1}}, api.Arg, 0}, {Prog{{-1, 0}}, api.Arg, 0},
		{Prog{{Labels, 5}, {Labels, -1}, {99, 0}}, api.Range, 1}, {Prog{{Degree, 256}}, api.Range, 0}, {Prog{{Size, math.MaxInt}}, api.Range, 0},
		{Prog{{Edges, math.MinInt}}, api.Range, 0}, {Prog{{Only, 256}}, api.Range, 0}, {Prog{{Clique, 1}}, api.Range, 0}, {Prog{{Unlike, -1}}, api.Range, 0}, {Prog{{Size, 1}, {Free, 255}}, api.Range, 1},
	} {
		if err := Right(c.p); fault.Code(err) != c.code || fault.At(err) != c.at {
			t.Errorf("P17.1: %d: %v at %d", i, err, fault.At(err))
		}
		if c.p.Keeps(of([]int{0})) {
			t.Errorf("P17.1: %d keeps", i)
		}
	}
}

func TestTest(t *testing.T) {
	path, triangle := of([]int{1, 2, 1}, 0, 1, 1, 2), of([]int{1, 2, 3}, 0, 1, 0, 2, 1, 2)
	square := of(make([]int, 4), 0, 1, 0, 3, 1, 2, 2, 3)
	for i, c := range []struct {
		o    Op
		p    api.Pat
		want bool
	}{
		{Op{Clique, 0}, triangle, true}, {Op{Clique, 0}, path, false}, {Op{Clique, 0}, api.Pat{}, true}, {Op{Clique, 0}, of([]int{5}), true},
		{Op{Labels, 2}, path, true}, {Op{Labels, 2}, triangle, false}, {Op{Labels, 0}, api.Pat{}, true},
		{Op{Degree, 2}, path, true}, {Op{Degree, 1}, path, false}, {Op{Degree, 0}, of([]int{1, 1}), true}, {Op{Degree, 0}, of([]int{1, 1}, 0, 1), false},
		{Op{Size, 3}, path, true}, {Op{Size, 2}, path, false}, {Op{Size, 0}, api.Pat{}, true},
		{Op{Edges, 2}, path, true}, {Op{Edges, 2}, triangle, false},
		{Op{Unlike, 0}, triangle, true}, {Op{Unlike, 0}, path, false}, {Op{Unlike, 0}, api.Pat{}, true},
		{Op{Only, 1}, path, false}, {Op{Only, 0}, square, true}, {Op{Only, 9}, api.Pat{}, true},
		{Op{Free, 0}, path, true}, {Op{Free, 0}, triangle, false}, {Op{Free, 0}, square, true}, {Op{Free, 0}, of(make([]int, 4), 0, 1, 0, 3, 1, 2, 1, 3, 2, 3), false},
		{Op{0, 0}, path, false}, {Op{9, 0}, path, false}, {Op{Labels, 256}, path, false}, {Op{Labels, -1}, api.Pat{}, false}, {Op{Clique, 1}, triangle, false},
		{Op{Labels, 255}, of([]int{256}), false}, {Op{Size, 255}, of(make([]int, 9)), false}, {Op{Free, 0}, of([]int{0, 0}, 1, 0), false}, {Op{Clique, 0}, of([]int{0, 0}, 0, 7), false},
	} {
		if Test(c.o, c.p) != c.want {
			t.Errorf("P17.1: %d: %v of %s", i, c.o, pat.Text(c.p))
		}
	}
}

func TestHandedInStays(t *testing.T) {
	x := of([]int{3, 1, 2}, 0, 1, 0, 2)
	for kind := range 10 {
		Test(Op{Kind: kind}, x)
	}
	if pat.Compare(x, of([]int{3, 1, 2}, 0, 1, 0, 2)) != 0 {
		t.Errorf("P17.1: %s", pat.Text(x))
	}
}

func TestKeepsAndFirst(t *testing.T) {
	p := Prog{{Size, 3}, {Labels, 5}, {Free, 0}}
	for i, c := range []struct {
		p     Prog
		x     api.Pat
		first int
	}{
		{p, of([]int{1, 5}, 0, 1), -1}, {p, of([]int{1, 6}), 1}, {p, of(make([]int, 4)), 0}, {p, of(make([]int, 3), 0, 1, 0, 2, 1, 2), 2},
		{nil, of([]int{1}), -1}, {Prog{{Size, 3}, {99, 0}}, of([]int{1}), 1},
	} {
		if c.p.First(c.x) != c.first || c.p.Keeps(c.x) != (c.first < 0) {
			t.Errorf("P17.1: %d: %d", i, c.p.First(c.x))
		}
	}
	wrong := of([]int{300})
	if p.First(wrong) != 0 || p.Keeps(wrong) || Prog(nil).Keeps(wrong) || Prog(nil).First(wrong) != -1 {
		t.Error("P17.1: of a pattern that isn't right")
	}
	if slices.Repeat(Prog{{Free, 0}}, 17).Keeps(of(nil)) {
		t.Error("P17.1: too many tests")
	}
}

func TestTextAndParse(t *testing.T) {
	for text, p := range map[string]Prog{
		"": nil, "clique;labels 3": {{Clique, 0}, {Labels, 3}}, "free": {{Free, 0}},
		"labels 0;degree 1;size 20;edges 255;unlike;only 7;free;clique": {{Labels, 0}, {Degree, 1}, {Size, 20}, {Edges, 255}, {Unlike, 0}, {Only, 7}, {Free, 0}, {Clique, 0}},
	} {
		got, err := Parse(text)
		if Text(p) != text || err != nil || !slices.Equal(got, p) {
			t.Errorf("P17.2: %q: %q, %v, %v", text, Text(p), got, err)
		}
	}
	for _, c := range []struct {
		text     string
		code, at int
	}{
		{";", api.Form, 0}, {"clique;", api.Form, 1}, {"free;;free", api.Form, 1}, {"x", api.Form, 0}, {"free;free 0", api.Form, 1}, {"clique ", api.Form, 0},
		{"labels", api.Form, 0}, {"labels ", api.Form, 0}, {"labels  1", api.Form, 0}, {"labels 1 ", api.Form, 0}, {" labels 1", api.Form, 0}, {"labels 01", api.Form, 0},
		{"labels 00", api.Form, 0}, {"labels -1", api.Form, 0}, {"labels +1", api.Form, 0}, {"labels 1_0", api.Form, 0}, {"labels 1000000", api.Form, 0}, {"labels 1,2", api.Form, 0},
		{"labels 99999999999999999999", api.Form, 0}, {"size 3; free", api.Form, 1}, {"free\n", api.Form, 0}, {"Free", api.Form, 0},
		{"labels 256;x", api.Form, 1}, {"free;labels 256", api.Range, 1}, {"only 999999", api.Range, 0},
		{strings.Repeat("labels 999;", 16) + "free", api.Large, 0}, {strings.Repeat("free;", 17) + "x", api.Form, 17},
	} {
		if p, err := Parse(c.text); p != nil || fault.Code(err) != c.code || fault.At(err) != c.at {
			t.Errorf("P17.2: %q: %v at %d", c.text, err, fault.At(err))
		}
	}
	Text(Prog{{0, 5}, {99, math.MinInt}, {Labels, math.MinInt}})
}

func TestFalls(t *testing.T) {
	if !Falls(nil) || !Falls(Prog{{Labels, 1}, {Free, 0}}) || Falls(Prog{{Free, 0}, {Clique, 0}}) {
		t.Error("P17.1: Falls")
	}
}

func TestWithLess(t *testing.T) {
	r := rand.New(rand.NewSource(17))
	for range 400 {
		x := some(r, r.Intn(6), 3)
		o := Op{Kind: 1 + r.Intn(8)}
		if counts(o.Kind) {
			o.N = r.Intn(5)
		}
		p := Prog{o}
		if !p.Keeps(x) {
			continue
		}
		all := make([]int, len(x.Labels))
		for i := range all {
			all[i] = i
		}
		for k := range len(all) + 1 {
			for vertices := range sets.Picks(all, k) {
				if sub, err := pat.Sub(x, vertices); err != nil || !p.Keeps(sub) {
					t.Fatalf("P17.3: %s of %s and %v", Text(p), pat.Text(x), vertices)
				}
			}
		}
		for _, e := range x.Edges {
			if less, err := pat.Less(x, e); err != nil || (Falls(p) && !p.Keeps(less)) {
				t.Fatalf("P17.1: %s of %s without %v", Text(p), pat.Text(x), e)
			}
		}
	}
}
