package level

import (
	"math"
	"math/rand"
	"slices"
	"testing"

	"fretwork/agg"
	"fretwork/api"
	"fretwork/fault"
	"fretwork/graph"
	"fretwork/lines"
	"fretwork/pat"
	"fretwork/prog"
	"fretwork/quick"
	"fretwork/sets"
	"fretwork/vert"
)

func of(t *testing.T, labels []int, ends ...int) *graph.Graph {
	t.Helper()
	var l []api.Edge
	for i := 0; i+1 < len(ends); i += 2 {
		l = append(l, api.Edge{A: ends[i], B: ends[i+1]})
	}
	g, err := graph.New(labels, l)
	if err != nil {
		t.Fatal(err)
	}
	return g
}

func some(t *testing.T, r *rand.Rand, n, labels int) *graph.Graph {
	var ends []int
	l := make([]int, n)
	for a := range n {
		l[a] = r.Intn(labels)
		for b := range a {
			if r.Intn(5) < 2 {
				ends = append(ends, a, b)
			}
		}
	}
	return of(t, l, ends...)
}

func star(t *testing.T, n int) *graph.Graph {
	var ends []int
	for v := range n {
		ends = append(ends, 0, v+1)
	}
	return of(t, make([]int, n+1), ends...)
}

func same(a, b [][]int) bool { return slices.EqualFunc(a, b, slices.Equal) }

// wrongs are jobs that aren't right.
func wrongs(t *testing.T) map[int]Job {
	return map[int]Job{
		api.Nil:   {Depth: 99},
		api.Range: {G: star(t, 2), Depth: 0, Prog: prog.Prog{{Kind: 99}}},
		api.Arg:   {G: star(t, 200), Edges: true, Depth: 8, Prog: prog.Prog{{Kind: 99}}},
		api.Large: {G: star(t, 182), Edges: true, Depth: 1},
	}
}

func TestRightAndWords(t *testing.T) {
	for code, j := range wrongs(t) {
		words, err := Words(j)
		if fault.Code(Right(j)) != code || fault.Code(err) != code || words != nil {
			t.Errorf("P18.1: %d: %v", code, Right(j))
		}
	}
	for _, depth := range []int{-1, 9, math.MinInt, math.MaxInt} {
		if fault.Code(Right(Job{G: star(t, 2), Depth: depth})) != api.Range {
			t.Errorf("P18.1: depth %d", depth)
		}
	}
	if err := Right(Job{G: star(t, 182), Edges: true, Depth: 1}); !slices.Equal(fault.Words(err), []string{"lines"}) {
		t.Errorf("P18.1: %v", err)
	}
	g := star(t, 181)
	line, _ := lines.Of(g)
	a, e1 := Words(Job{G: g, Depth: 8})
	b, e2 := Words(Job{G: g, Edges: true, Depth: 1})
	if e1 != nil || e2 != nil || !a.Same(g) || !b.Same(line) {
		t.Errorf("P18.1: Words: %v, %v", e1, e2)
	}
}

func TestPattern(t *testing.T) {
	g := of(t, []int{4, 5, 6}, 0, 1, 0, 2, 1, 2)
	l := []int{2, 0}
	p, vertices, err := Pattern(Job{G: g, Depth: 1}, l)
	if err != nil || pat.Text(p) != "6,4|0-1" || !slices.Equal(vertices, l) {
		t.Errorf("P18.1: %s of %v, %v", pat.Text(p), vertices, err)
	}
	vertices[0] = 9
	if l[0] != 2 {
		t.Error("P18.1: vertices are new memory")
	}
	p, vertices, err = Pattern(Job{G: g, Edges: true, Depth: 1}, l)
	if err != nil || pat.Text(p) != "5,6,4|0-1,0-2" || !slices.Equal(vertices, []int{1, 2, 0}) {
		t.Errorf("P18.1: %s of %v, %v", pat.Text(p), vertices, err)
	}
	for _, edges := range []bool{false, true} {
		for _, l := range [][]int{{7}, {0, 0}, {-1}} {
			if p, vertices, err := Pattern(Job{G: g, Edges: edges, Depth: 1}, l); p.Labels != nil || vertices != nil || fault.Code(err) != api.Form {
				t.Errorf("P18.1: %v: %v", l, err)
			}
		}
	}
	if _, _, err := Pattern(Job{G: g, Depth: 1}, make([]int, 9)); fault.Code(err) != api.Large {
		t.Errorf("P18.1: %v", err)
	}
	for code, j := range wrongs(t) {
		if p, vertices, err := Pattern(j, []int{0}); p.Labels != nil || vertices != nil || fault.Code(err) != code {
			t.Errorf("P18.1: %d: %v", code, err)
		}
	}
}

func TestWrongJobs(t *testing.T) {
	for code, j := range wrongs(t) {
		start, e1 := Start(j)
		grow, e2 := Grow(j, []int{0})
		all, e3 := All(j, 99)
		table, e4 := Table(j, [][]int{{0}})
		for i, err := range []error{e1, e2, e3, e4} {
			if fault.Code(err) != code {
				t.Errorf("P18.2: %d: call %d: %v", code, i, err)
			}
		}
		if start != nil || grow != nil || all != nil || table != nil || Keeps(j, []int{0}) {
			t.Errorf("P18.2: %d: answers", code)
		}
	}
}

// kept tells whether a list is kept just as the words are.
func kept(t *testing.T, j Job, l []int) bool {
	words, err := Words(j)
	if err != nil {
		t.Fatal(err)
	}
	if len(l) == 0 || !vert.Canonical(words, l) {
		return false
	}
	for i := range l {
		p, _, err := Pattern(j, l[:i+1])
		if err != nil || !j.Prog.Keeps(p) {
			return false
		}
	}
	return true
}

// jobs tells random jobs.
func jobs(t *testing.T, r *rand.Rand) Job {
	texts := []string{"", "", "clique", "free", "labels 1", "degree 2", "size 3", "edges 3", "unlike", "only 0", "labels 1;free", "clique;size 3"}
	p, err := prog.Parse(texts[r.Intn(len(texts))])
	if err != nil {
		t.Fatal(err)
	}
	return Job{G: some(t, r, r.Intn(8), 3), Edges: r.Intn(2) == 0, Depth: 1 + r.Intn(5), Prog: p}
}

func TestKeepsAndGrow(t *testing.T) {
	r := rand.New(rand.NewSource(18))
	for range 150 {
		j := jobs(t, r)
		words, _ := Words(j)
		for range 60 {
			l, _ := vert.List(words, r.Perm(words.Len())[:min(words.Len(), r.Intn(5))])
			if r.Intn(3) == 0 {
				l = append(l, r.Intn(10)-1)
			}
			is := kept(t, j, l)
			if Keeps(j, l) != is {
				t.Fatalf("P18.1: %v of %v", l, j)
			}
			var want [][]int
			for w := range words.Len() {
				if longer := append(slices.Clone(l), w); is && len(l) < j.Depth && kept(t, j, longer) {
					want = append(want, longer)
				}
			}
			got, err := Grow(j, l)
			if !same(got, want) || (err == nil) != is || (!is && fault.Code(err) != api.Form) {
				t.Fatalf("P18.2: %v of %v: %v, %v", l, j, got, err)
			}
		}
	}
	clique := Job{G: of(t, make([]int, 3), 0, 1, 0, 2, 1, 2), Edges: true, Depth: 3, Prog: prog.Prog{{Kind: prog.Clique}}}
	if !Keeps(clique, []int{2}) || Keeps(clique, []int{0, 1}) || Keeps(clique, []int{0, 1, 2}) {
		t.Error("P18.1: what a list begins with must be kept")
	}
	path := of(t, make([]int, 12), 0, 1, 1, 2, 2, 3, 3, 4, 4, 5, 5, 6, 6, 7, 7, 8, 8, 9, 9, 10, 10, 11)
	seven := []int{0, 1, 2, 3, 4, 5, 6}
	j := Job{G: path, Edges: true, Depth: 8}
	if l, err := Grow(j, seven); err != nil || len(l) != 0 || !Keeps(j, seven) || Keeps(j, append(seven, 7)) {
		t.Errorf("P18.2: 9 vertices: %v, %v", l, err)
	}
	long := make([]int, 1<<12)
	if Keeps(j, long) || Keeps(Job{G: path, Depth: 3}, long) || Keeps(j, nil) {
		t.Error("P18.1: long lists")
	}
}

func TestDepth(t *testing.T) {
	j := Job{G: of(t, make([]int, 4), 0, 1, 1, 2, 2, 3), Depth: 2}
	if !Keeps(j, []int{0, 1, 2}) {
		t.Error("P18.1: the depth plays no part in what is kept")
	}
	for _, l := range [][]int{{0, 1}, {0, 1, 2}} {
		if got, err := Grow(j, l); len(got) != 0 || err != nil {
			t.Errorf("P18.2: %v: %v, %v", l, got, err)
		}
	}
	if _, err := Grow(j, []int{1, 0, 2}); fault.Code(err) != api.Form {
		t.Errorf("P18.2: %v", err)
	}
}

func TestAll(t *testing.T) {
	triangle := of(t, make([]int, 3), 0, 1, 0, 2, 1, 2)
	want := [][][]int{{{0}, {1}, {2}}, {{0, 1}, {0, 2}, {1, 2}}, {{0, 1, 2}}}
	for _, edges := range []bool{false, true} {
		for depth := 3; depth < 9; depth++ {
			levels, err := All(Job{G: triangle, Edges: edges, Depth: depth}, 7)
			if err != nil || !slices.EqualFunc(levels, want, same) {
				t.Errorf("P18.2: %v, %v", levels, err)
			}
		}
	}
	j := Job{G: triangle, Depth: 2}
	for _, most := range []int{5, 3, 2, 0, -1, math.MinInt} {
		if levels, err := All(j, most); levels != nil || fault.Code(err) != api.Cap || fault.At(err) != 0 {
			t.Errorf("P18.2: at most %d: %v, %v", most, levels, err)
		}
	}
	if levels, err := All(j, 6); err != nil || len(levels) != 2 {
		t.Errorf("P18.2: just as many: %v", err)
	}
	if levels, err := All(Job{G: of(t, nil), Depth: 8}, -5); err != nil || len(levels) != 0 {
		t.Errorf("P18.2: no vertices: %v, %v", levels, err)
	}
	if levels, err := All(Job{G: of(t, []int{1}), Edges: true, Depth: 8}, 0); err != nil || len(levels) != 0 {
		t.Errorf("P18.2: no edges: %v, %v", levels, err)
	}
}

func TestEachOnce(t *testing.T) {
	r := rand.New(rand.NewSource(183))
	for range 120 {
		j := jobs(t, r)
		words, _ := Words(j)
		all := make([]int, words.Len())
		for i := range all {
			all[i] = i
		}
		levels, err := All(j, math.MaxInt)
		if err != nil {
			t.Fatal(err)
		}
		start, err := Start(j)
		if err != nil || (len(levels) > 0 && !same(start, levels[0])) || (len(levels) == 0 && len(start) > 0) {
			t.Fatalf("P18.2: Start: %v", err)
		}
		for n := 1; n <= j.Depth; n++ {
			var want [][]int
			for set := range sets.Picks(all, n) {
				if l, ok := vert.List(words, set); ok && kept(t, j, l) {
					want = append(want, l)
				}
			}
			slices.SortFunc(want, sets.Compare)
			var got [][]int
			if n <= len(levels) {
				got = levels[n-1]
			}
			if !same(got, want) || (n <= len(levels) && len(got) == 0) {
				t.Fatalf("P18.3: level %d of %v: %v, not %v", n, j, got, want)
			}
		}
		if len(levels) > j.Depth {
			t.Fatalf("P18.2: %d levels", len(levels))
		}
	}
}

func TestTable(t *testing.T) {
	g := of(t, []int{1, 2, 1}, 0, 1, 1, 2)
	j := Job{G: g, Depth: 2}
	table, err := Table(j, [][]int{{0, 1}, {2, 1}, {1, 2}, {0}})
	if err != nil || len(table.Rows()) != 3 {
		t.Fatalf("P18.2: %v", err)
	}
	for text, n := range map[string]int64{"1,2|0-1": 2, "2,1|0-1": 1, "1|": 1} {
		if !slices.ContainsFunc(table.Rows(), func(r agg.Row) bool { return pat.Text(r.Pat) == text && r.N == n }) {
			t.Errorf("P18.2: %s", text)
		}
	}
	if table, err := Table(j, [][]int{{0}, {0, 2}}); table != nil || fault.Code(err) != api.Form {
		t.Errorf("P18.2: %v", err)
	}
	if table, err := Table(Job{G: g, Edges: true, Depth: 1}, [][]int{{0, 1}}); err != nil || len(table.Rows()) != 1 {
		t.Errorf("P18.2: %v", err)
	} else if p, _, _ := quick.Edge(g, []int{0, 1}); table.Get(p) != 1 {
		t.Error("P18.2: by edges")
	}
}
