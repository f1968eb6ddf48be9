package render

import (
	"maps"
	"math"
	"math/rand"
	"slices"
	"testing"

	"fretwork/api"
	"fretwork/canon"
	"fretwork/conf"
	"fretwork/fault"
	"fretwork/graph"
	"fretwork/level"
	"fretwork/mini"
	"fretwork/pat"
	"fretwork/prog"
	"fretwork/sets"
	"fretwork/vert"
)

func of(t *testing.T, labels []int, ends ...int) *graph.Graph {
	t.Helper()
	var l []api.Edge
	for i := 0; i+1 < len(ends); i += 2 {
		l = append(l, api.Edge{A: ends[i], B: ends[i+1]})
	}
	g, err := graph.New(labels, l)
	if err != nil {
		t.Fatal(err)
	}
	return g
}

func some(t *testing.T, r *rand.Rand, n, labels int) *graph.Graph {
	var ends []int
	l := make([]int, n)
	for a := range n {
		l[a] = r.Intn(labels)
		for b := range a {
			if r.Intn(5) < 2 {
				ends = append(ends, a, b)
			}
		}
	}
	return of(t, l, ends...)
}

func confOf(t *testing.T, text string) conf.Conf {
	t.Helper()
	c, err := conf.Parse(text)
	if err != nil {
		t.Fatal(err)
	}
	return c
}

// found tells what all levels of a job come to.
func found(t *testing.T, c conf.Conf, g *graph.Graph) Result {
	t.Helper()
	levels, err := level.All(Job(c, g), math.MaxInt)
	if err != nil {
		t.Fatal(err)
	}
	r, err := Of(c, g, levels)
	if err != nil || r.Kind != c.Kind {
		t.Fatalf("P23.1: %v", err)
	}
	return r
}

func TestJob(t *testing.T) {
	g := of(t, []int{0})
	j := Job(confOf(t, "job cliques\nsize 4\nkeep free\n"), g)
	if j.G != g || j.Edges || j.Depth != 4 || !slices.Equal(j.Prog, prog.Prog{{Kind: prog.Clique}, {Kind: prog.Free}}) {
		t.Errorf("P23.1: %v", j)
	}
	if j := Job(confOf(t, "job fsm\nsize 2\nsupport 3\n"), nil); j.G != nil || !j.Edges || j.Depth != 2 || len(j.Prog) != 0 {
		t.Errorf("P23.1: %v", j)
	}
}

func TestExamples(t *testing.T) {
	path, triangle := of(t, make([]int, 3), 0, 1, 1, 2), of(t, make([]int, 3), 0, 1, 0, 2, 1, 2)
	for i, c := range []struct {
		g          *graph.Graph
		text, want string
	}{
		{path, "job motifs\nsize 3\n", "1 0,0,0|0-1,0-2\n"},
		{path, "job motifs\nsize 2\n", "2 0,0|0-1\n"},
		{path, "job motifs\nsize 4\n", ""},
		{triangle, "job cliques\nsize 2\n", "0\n1\n2\n0 1\n0 2\n1 2\n"},
		{triangle, "job motifs\nsize 3\n", "1 0,0,0|0-1,0-2,1-2\n"},
		{path, "job fsm\nsize 2\nsupport 1\n", "3 0,0|0-1\n1 0,0,0|0-1,0-2\n"},
		{path, "job fsm\nsize 2\nsupport 2\n", "3 0,0|0-1\n"},
		{path, "job fsm\nsize 2\nsupport 4\n", ""},
		{triangle, "job fsm\nsize 3\nsupport 1\n", "3 0,0|0-1\n3 0,0,0|0-1,0-2\n3 0,0,0|0-1,0-2,1-2\n"},
		{of(t, []int{5, 2, 5}, 0, 1, 1, 2), "job motifs\nsize 2\n", "2 2,5|0-1\n"},
		{of(t, []int{5, 2, 5}, 0, 1, 1, 2), "job fsm\nsize 1\nsupport 1\n", "1 2,5|0-1\n"},
		{of(t, nil), "job cliques\nsize 3\n", ""},
	} {
		if got := Text(found(t, confOf(t, c.text), c.g)); got != c.want {
			t.Errorf("P23.1, P23.2: %d: %q, not %q", i, got, c.want)
		}
	}
}

func TestOfErrors(t *testing.T) {
	g := of(t, make([]int, 10), 0, 1, 1, 2, 2, 3, 3, 4, 4, 5, 5, 6, 6, 7, 7, 8, 8, 9)
	motifs, cliques, fsm := confOf(t, "job motifs\nsize 2\n"), confOf(t, "job cliques\nsize 2\n"), confOf(t, "job fsm\nsize 2\nsupport 1\n")
	var ends []int
	for v := range 200 {
		ends = append(ends, 0, v+1)
	}
	star := of(t, make([]int, 201), ends...)
	bad := [][][]int{{{0}, {0, 2}}}
	for i, c := range []struct {
		c      conf.Conf
		g      *graph.Graph
		levels [][][]int
		code   int
		step   bool
	}{
		{conf.Conf{}, nil, bad, api.Config, false}, {motifs, nil, bad, api.Nil, false}, {fsm, star, bad, api.Large, false},
		{motifs, g, bad, api.Form, true}, {cliques, g, bad, api.Form, true}, {fsm, g, bad, api.Form, true},
		{motifs, g, [][][]int{{{0}}, {{1, 1}}}, api.Form, true}, {cliques, g, [][][]int{{{10}}}, api.Form, true}, {fsm, g, [][][]int{{{-1}}}, api.Form, true},
		{motifs, g, [][][]int{{{0, 1, 2, 3, 4, 5, 6, 7, 8}}}, api.Form, true}, {fsm, g, [][][]int{{{0, 1, 2, 3, 4, 5, 6, 7}}}, api.Form, true},
	} {
		r, err := Of(c.c, c.g, c.levels)
		if !Same(r, Result{}) || fault.Code(err) != c.code || fault.At(err) != 0 {
			t.Errorf("P23.1: %d: %v", i, err)
		}
		if c.step && (!slices.Equal(fault.Words(err), []string{"render"}) || fault.Is(err, api.Large)) {
			t.Errorf("P23.1: %d: %v", i, err)
		}
	}
	for _, c := range []conf.Conf{motifs, cliques, fsm} {
		if r, err := Of(c, g, nil); err != nil || r.Kind != c.Kind || Text(r) != "" {
			t.Errorf("P23.1: no levels: %v", err)
		}
		Of(c, g, [][][]int{{nil}})
	}
}

func TestOwnMemory(t *testing.T) {
	g := of(t, make([]int, 3), 0, 1, 0, 2, 1, 2)
	levels := [][][]int{{{2, 0}, {1}}}
	r, err := Of(confOf(t, "job cliques\nsize 2\n"), g, levels)
	if err != nil || Text(r) != "1\n0 2\n" || levels[0][0][0] != 2 {
		t.Errorf("P23.1: %q, %v", Text(r), err)
	}
	r.Sets[0][0] = 9
	if levels[0][1][0] != 1 {
		t.Error("P23.1: sets are new memory")
	}
}

func TestTextAndSame(t *testing.T) {
	p := api.Pat{Labels: []int{1, 2}, Edges: []api.Edge{{A: 0, B: 1}}}
	r := Result{Kind: 77, Lines: []Line{{p, 5}, {api.Pat{}, math.MinInt64}}, Sets: [][]int{{3, 4}, nil, {7}}}
	if Text(r) != "5 1,2|0-1\n-9223372036854775808 |\n3 4\n\n7\n" || Text(Result{}) != "" {
		t.Errorf("P23.2: %q", Text(r))
	}
	for i, other := range []Result{
		{}, {Kind: 76, Lines: r.Lines, Sets: r.Sets}, {Kind: 77, Lines: r.Lines[:1], Sets: r.Sets}, {Kind: 77, Lines: r.Lines, Sets: r.Sets[:2]},
		{Kind: 77, Lines: []Line{{p, 6}, r.Lines[1]}, Sets: r.Sets}, {Kind: 77, Lines: []Line{{api.Pat{Labels: []int{1, 2}}, 5}, r.Lines[1]}, Sets: r.Sets},
		{Kind: 77, Lines: r.Lines, Sets: [][]int{{3, 5}, nil, {7}}},
	} {
		if Same(r, other) || Same(other, r) {
			t.Errorf("P23.2: %d is the same", i)
		}
	}
	if !Same(r, Result{Kind: 77, Lines: slices.Clone(r.Lines), Sets: [][]int{{3, 4}, {}, {7}}}) || !Same(Result{}, Result{Lines: []Line{}, Sets: [][]int{}}) {
		t.Error("P23.2: Same")
	}
}

func TestMotifs(t *testing.T) {
	r := rand.New(rand.NewSource(23))
	for range 60 {
		g, size := some(t, r, r.Intn(9), 2), 1+r.Intn(4)
		want := map[string]int64{}
		for set := range sets.Picks(vert.Next(g, nil), size) {
			if _, ok := vert.List(g, set); !ok {
				continue
			}
			var edges []api.Edge
			labels := make([]int, size)
			for a, v := range set {
				labels[a] = g.Label(v)
				for b, u := range set[:a] {
					if g.Has(u, v) {
						edges = append(edges, api.Edge{A: b, B: a})
					}
				}
			}
			p, _ := pat.Make(labels, edges)
			key, _ := canon.Key(p)
			want[key]++
		}
		lines := found(t, conf.Conf{Kind: conf.Motifs, Size: size, Workers: 1, Cap: 1}, g).Lines
		got := map[string]int64{}
		for _, l := range lines {
			got[pat.Text(l.Pat)] = l.N
		}
		if !maps.Equal(got, want) || !slices.IsSortedFunc(lines, func(a, b Line) int { return pat.Compare(a.Pat, b.Pat) }) {
			t.Fatalf("P23.3: %v, not %v", got, want)
		}
	}
}

func TestCliques(t *testing.T) {
	r := rand.New(rand.NewSource(24))
	for range 60 {
		g, size := some(t, r, r.Intn(9), 2), 1+r.Intn(4)
		var want [][]int
		for k := 1; k <= size; k++ {
			for set := range sets.Picks(vert.Next(g, nil), k) {
				all := true
				for a := range set {
					for b := range a {
						all = all && g.Has(set[a], set[b])
					}
				}
				if all {
					want = append(want, set)
				}
			}
		}
		got := found(t, conf.Conf{Kind: conf.Cliques, Size: size, Workers: 1, Cap: 1}, g).Sets
		if !slices.EqualFunc(got, want, slices.Equal) {
			t.Fatalf("P23.3: %v, not %v", got, want)
		}
	}
}

// formsOf tells all forms of connected patterns of at most so many edges that stand in a graph.
func formsOf(g *graph.Graph, most int) map[string]api.Pat {
	forms := map[string]api.Pat{}
	for label := range 256 {
		for v := range g.Len() {
			if g.Label(v) == label {
				forms["one "+pat.Text(api.Pat{Labels: []int{label}})] = api.Pat{Labels: []int{label}}
			}
		}
	}
	grown := forms
	all := map[string]api.Pat{}
	for range most {
		next := map[string]api.Pat{}
		add := func(labels []int, edges []api.Edge) {
			p, err := pat.Make(labels, edges)
			if err != nil {
				return
			}
			form, _, _ := canon.Form(p)
			if n, _ := mini.Support(g, form); n > 0 {
				next[pat.Text(form)] = form
			}
		}
		for _, p := range grown {
			n := len(p.Labels)
			for a := range n {
				for label := range 3 {
					add(append(slices.Clone(p.Labels), label), append(slices.Clone(p.Edges), api.Edge{A: a, B: n}))
				}
				for b := range a {
					add(p.Labels, append(slices.Clone(p.Edges), api.Edge{A: b, B: a}))
				}
			}
		}
		maps.Copy(all, next)
		grown = next
	}
	return all
}

func TestFsm(t *testing.T) {
	r := rand.New(rand.NewSource(25))
	for range 40 {
		g, size, support := some(t, r, 3+r.Intn(5), 2), 1+r.Intn(4), 1+r.Intn(3)
		want := map[string]int64{}
		for key, p := range formsOf(g, size) {
			if n, err := mini.Support(g, p); err == nil && n >= support {
				want[key] = int64(n)
			}
		}
		lines := found(t, conf.Conf{Kind: conf.Fsm, Size: size, Support: support, Workers: 1, Cap: 1}, g).Lines
		got := map[string]int64{}
		for _, l := range lines {
			got[pat.Text(l.Pat)] = l.N
		}
		if !maps.Equal(got, want) || !slices.IsSortedFunc(lines, func(a, b Line) int { return pat.Compare(a.Pat, b.Pat) }) {
			t.Fatalf("P23.3: %v, not %v", got, want)
		}
	}
}

func TestKeptOut(t *testing.T) {
	g := of(t, []int{0, 0, 0, 1}, 0, 1, 0, 2, 1, 2, 2, 3)
	for text, want := range map[string]string{
		"job motifs\nsize 3\nkeep free\n":              "2 0,0,1|0-1,0-2\n",
		"job motifs\nsize 3\nkeep only 0\n":            "1 0,0,0|0-1,0-2,1-2\n",
		"job fsm\nsize 2\nsupport 1\nkeep edges 1\n":   "3 0,0|0-1\n1 0,1|0-1\n",
		"job fsm\nsize 3\nsupport 1\nkeep clique\n":    "3 0,0|0-1\n1 0,1|0-1\n",
		"job cliques\nsize 3\nkeep labels 0;size 2\n":  "0\n1\n2\n0 1\n0 2\n1 2\n",
		"job cliques\nsize 8\nkeep degree 1\n":         "0\n1\n2\n3\n0 1\n0 2\n1 2\n2 3\n",
		"job motifs\nsize 1\nkeep labels 0;degree 0\n": "3 0|\n",
	} {
		if got := Text(found(t, confOf(t, text), g)); got != want {
			t.Errorf("P23.1: %q: %q", text, got)
		}
	}
}
