package script

import (
	"fmt"
	"maps"
	"math/rand"
	"slices"
	"strconv"
	"strings"
	"testing"

	"fretwork/api"
	"fretwork/canon"
	"fretwork/engine"
	"fretwork/fault"
	"fretwork/graph"
	"fretwork/load"
	"fretwork/mini"
	"fretwork/pat"
	"fretwork/prog"
	"fretwork/render"
	"fretwork/run"
	"fretwork/sets"
	"fretwork/vert"
)

// some tells a random graph.
func some(r *rand.Rand, n, labels int) *graph.Graph {
	l := make([]int, n)
	var edges []api.Edge
	for a := range n {
		l[a] = r.Intn(labels)
		for b := range a {
			if r.Intn(5) < 2 {
				edges = append(edges, api.Edge{A: a, B: b})
			}
		}
	}
	g, err := graph.New(l, edges)
	if err != nil {
		panic(err)
	}
	return g
}

// acts tells the text of random acts, that may do anything.
func acts(r *rand.Rand, workers int) string {
	var b strings.Builder
	for range r.Intn(120) {
		word := []string{"work", "work", "work", "deliver", "deliver", "deliver", "double", "crash", "pass", "finish"}[r.Intn(10)]
		b.WriteString(word)
		if word != "pass" && word != "finish" {
			fmt.Fprintf(&b, " %d", r.Intn(workers+2))
		}
		b.WriteString("\n")
	}
	return b.String()
}

// patternOf tells the pattern that some vertices make in a graph.
func patternOf(t *testing.T, g *graph.Graph, vertices []int) api.Pat {
	t.Helper()
	var edges []api.Edge
	labels := make([]int, len(vertices))
	for a, v := range vertices {
		labels[a] = g.Label(v)
		for b, u := range vertices[:a] {
			if g.Has(u, v) {
				edges = append(edges, api.Edge{A: b, B: a})
			}
		}
	}
	p, err := pat.Make(labels, edges)
	if err != nil {
		t.Fatal(err)
	}
	return p
}

const fair = "finish\nfinish\nfinish\nfinish\nfinish\nfinish\nfinish\nfinish\nfinish\nfinish\n"

// T1: whatever the bytes, there is a result or one fault, and a fair script brings a result.
func TestOneAnswer(t *testing.T) {
	r := rand.New(rand.NewSource(101))
	spoil := func(b []byte) []byte {
		b = slices.Clone(b)
		for range r.Intn(3) {
			if len(b) == 0 {
				break
			}
			switch i := r.Intn(len(b)); r.Intn(3) {
			case 0:
				b[i] = byte(r.Intn(256))
			case 1:
				b = slices.Delete(b, i, i+1)
			default:
				b = slices.Insert(b, i, []byte("0 1\nve")[r.Intn(6)])
			}
		}
		return b
	}
	seen := map[int]int{}
	for range 1500 {
		read := some(r, r.Intn(6), 2)
		g := []byte(load.Print(read))
		if r.Intn(2) == 0 {
			g = load.Pack(read)
		}
		workers := 1 + r.Intn(3)
		job := []string{"job motifs\n", "job cliques\n", "job fsm\nsupport 1\n"}[r.Intn(3)] + fmt.Sprintf("size %d\nworkers %d\ncap %d\n", 1+r.Intn(3), workers, 1+r.Intn(30))
		c, l := []byte(job), acts(r, workers)
		if r.Intn(2) == 0 {
			g = spoil(g)
		}
		if r.Intn(2) == 0 {
			c = spoil(c)
		}
		if r.Intn(3) == 0 {
			l = string(spoil([]byte(l)))
		}
		_, badGraph := load.Any(g)
		_, _, badPlan := run.Plan(g, c)
		s, err := Run(g, c, l)
		code := fault.Code(err)
		seen[code]++
		if err != nil && s != "" || !slices.Contains([]int{0, api.Graph, api.Config, api.Overflow, api.Cap, api.Script}, code) {
			t.Fatalf("T1: %v", err)
		}
		for other := 1; other <= api.Down; other++ {
			if fault.Is(err, other) != (other == code) {
				t.Fatalf("T1: another fault: %v", err)
			}
		}
		if (code == api.Graph) != (badGraph != nil) || (code == api.Graph || code == api.Config) != (badPlan != nil) {
			t.Fatalf("T1: %v, %v, %v", err, badGraph, badPlan)
		}
		if _, err := Run(g, c, fair); badPlan == nil && err != nil && fault.Code(err) != api.Cap {
			t.Fatalf("T1: a fair script: %v", err)
		}
	}
	for _, code := range []int{0, api.Graph, api.Config, api.Cap, api.Script} {
		if seen[code] == 0 {
			t.Errorf("T1: the code %d didn't come up", code)
		}
	}
}

// T2: each connected set that is kept, with all that its list begins with, is in one share, once.
func TestEachSetOnce(t *testing.T) {
	r := rand.New(rand.NewSource(102))
	for range 60 {
		g := some(r, r.Intn(9), 3)
		text := []string{"", "free", "clique", "labels 1", "degree 2", "unlike"}[r.Intn(6)]
		p, err := prog.Parse(text)
		if err != nil {
			t.Fatal(err)
		}
		depth, workers := 1+r.Intn(4), 1+r.Intn(5)
		c := "job motifs\nsize " + strconv.Itoa(depth) + "\nworkers " + strconv.Itoa(workers) + "\n"
		if text != "" {
			c += "keep " + text + "\n"
		}
		asked, _, err := run.Plan([]byte(load.Print(g)), []byte(c))
		if err != nil {
			t.Fatal(err)
		}
		e, err := engine.New(render.Job(asked, g), workers)
		if err == nil {
			err = e.Run()
		}
		if err != nil {
			t.Fatal(err)
		}
		got := map[string]int{}
		for w := range workers {
			for _, lists := range e.Share(w) {
				for _, l := range lists {
					got[fmt.Sprint(sets.Of(l))]++
				}
			}
		}
		want := map[string]int{}
		for k := 1; k <= depth; k++ {
			for set := range sets.Picks(vert.Next(g, nil), k) {
				l, ok := vert.List(g, set)
				for i := range l {
					ok = ok && p.Keeps(patternOf(t, g, l[:i+1]))
				}
				if ok {
					want[fmt.Sprint(set)]++
				}
			}
		}
		if !maps.Equal(got, want) {
			t.Fatalf("T2: %v, not %v", got, want)
		}
	}
}

// T3: motifs and cliques are just those that a search through all sets finds.
func TestMotifsAndCliques(t *testing.T) {
	r := rand.New(rand.NewSource(103))
	for range 60 {
		g, size, workers := some(r, r.Intn(9), 2), 1+r.Intn(4), 1+r.Intn(4)
		var cliques strings.Builder
		motifs := map[string]int{}
		for k := 1; k <= size; k++ {
			for set := range sets.Picks(vert.Next(g, nil), k) {
				p := patternOf(t, g, set)
				if len(p.Edges) == k*(k-1)/2 {
					cliques.WriteString(strings.Trim(fmt.Sprint(set), "[]") + "\n")
				}
				if k == size && pat.Connected(p) {
					key, _ := canon.Key(p)
					motifs[key]++
				}
			}
		}
		rest := fmt.Sprintf("size %d\nworkers %d\n", size, workers)
		s, e1 := Run([]byte(load.Print(g)), []byte("job cliques\n"+rest), acts(r, workers)+fair)
		m, e2 := Run(load.Pack(g), []byte("job motifs\n"+rest), acts(r, workers)+fair)
		if e1 != nil || s != cliques.String() {
			t.Fatalf("T3: %q, not %q; %v", s, cliques.String(), e1)
		}
		got := map[string]int{}
		for line := range strings.Lines(m) {
			n, form, _ := strings.Cut(strings.TrimSuffix(line, "\n"), " ")
			got[form], _ = strconv.Atoi(n)
		}
		if e2 != nil || !maps.Equal(got, motifs) {
			t.Fatalf("T3: %v, not %v; %v", got, motifs, e2)
		}
	}
}

// T4: frequent patterns are just those of all subgraphs whose support is great enough.
func TestFrequent(t *testing.T) {
	r := rand.New(rand.NewSource(104))
	for range 40 {
		g, size, support := some(r, 2+r.Intn(5), 2), 1+r.Intn(3), 1+r.Intn(3)
		edges := make([]int, g.Size())
		for i := range edges {
			edges[i] = i
		}
		want := map[string]int{}
		for k := 1; k <= size; k++ {
			for ids := range sets.Picks(edges, k) {
				var vertices []int
				for _, id := range ids {
					e, _ := g.Edge(id)
					vertices = sets.Add(sets.Add(vertices, e.A), e.B)
				}
				var p api.Pat
				for _, v := range vertices {
					p.Labels = append(p.Labels, g.Label(v))
				}
				for _, id := range ids {
					e, _ := g.Edge(id)
					p.Edges = append(p.Edges, api.Edge{A: slices.Index(vertices, e.A), B: slices.Index(vertices, e.B)})
				}
				if !pat.Connected(p) {
					continue
				}
				key, _ := canon.Key(p)
				if n, err := mini.Support(g, p); err == nil && n >= support {
					want[key] = n
				}
			}
		}
		workers := 1 + r.Intn(4)
		s, err := Run(load.Pack(g), []byte(fmt.Sprintf("job fsm\nsize %d\nsupport %d\nworkers %d\n", size, support, workers)), acts(r, workers)+fair)
		got := map[string]int{}
		for line := range strings.Lines(s) {
			n, form, _ := strings.Cut(strings.TrimSuffix(line, "\n"), " ")
			got[form], _ = strconv.Atoi(n)
		}
		if err != nil || !maps.Equal(got, want) {
			t.Fatalf("T4: %v, not %v; %v", got, want, err)
		}
	}
}

// T5: runs that tell results tell the same, whatever the workers and scripts; a crash loses no barrier.
func TestScripts(t *testing.T) {
	r := rand.New(rand.NewSource(105))
	for range 40 {
		g := load.Pack(some(r, r.Intn(8), 2))
		job := []string{"job motifs\n", "job cliques\n", "job fsm\nsupport 2\n"}[r.Intn(3)] + fmt.Sprintf("size %d\n", 1+r.Intn(3))
		plain, err := run.Plain(g, []byte(job))
		if err != nil {
			t.Fatal(err)
		}
		for range 6 {
			workers := 1 + r.Intn(6)
			c := []byte(job + fmt.Sprintf("workers %d\n", workers))
			if s, err := Run(g, c, acts(r, workers)+fair); err != nil || s != plain {
				t.Fatalf("T5: %q, not %q; %v", s, plain, err)
			}
			crashed := strings.ReplaceAll(fair, "finish\n", "work 0\nfinish\nwork 0\ndouble 0\ncrash 0\n")
			if s, err := Run(g, c, crashed); err != nil || s != plain {
				t.Fatalf("T5: with crashes: %q, not %q; %v", s, plain, err)
			}
		}
	}
}
