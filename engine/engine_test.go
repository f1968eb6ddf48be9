package engine

import (
	"fmt"
	"math"
	"math/rand"
	"slices"
	"testing"

	"fretwork/api"
	"fretwork/fault"
	"fretwork/graph"
	"fretwork/level"
	"fretwork/odag"
	"fretwork/prog"
	"fretwork/rank"
	"fretwork/sets"
)

func of(t *testing.T, labels []int, ends ...int) *graph.Graph {
	t.Helper()
	var l []api.Edge
	for i := 0; i+1 < len(ends); i += 2 {
		l = append(l, api.Edge{A: ends[i], B: ends[i+1]})
	}
	g, err := graph.New(labels, l)
	if err != nil {
		t.Fatal(err)
	}
	return g
}

func some(t *testing.T, r *rand.Rand, n, labels int) *graph.Graph {
	var ends []int
	l := make([]int, n)
	for a := range n {
		l[a] = r.Intn(labels)
		for b := range a {
			if r.Intn(5) < 2 {
				ends = append(ends, a, b)
			}
		}
	}
	return of(t, l, ends...)
}

// jobOf tells a random job.
func jobOf(t *testing.T, r *rand.Rand) level.Job {
	texts := []string{"", "", "clique", "free", "labels 1", "degree 2", "edges 3", "unlike"}
	p, err := prog.Parse(texts[r.Intn(len(texts))])
	if err != nil {
		t.Fatal(err)
	}
	return level.Job{G: some(t, r, r.Intn(9), 3), Edges: r.Intn(2) == 0, Depth: 1 + r.Intn(4), Prog: p}
}

func must(t *testing.T, j level.Job, workers int) *Engine {
	t.Helper()
	e, err := New(j, workers)
	if err != nil {
		t.Fatal(err)
	}
	return e
}

func same(a, b [][][]int) bool {
	return slices.EqualFunc(a, b, func(x, y [][]int) bool { return slices.EqualFunc(x, y, slices.Equal) })
}

func TestNew(t *testing.T) {
	g := of(t, make([]int, 3), 0, 1, 0, 2, 1, 2)
	for i, c := range []struct {
		j       level.Job
		workers int
		code    int
	}{
		{level.Job{}, 0, api.Nil}, {level.Job{G: g}, 0, api.Range}, {level.Job{G: g, Depth: 9}, 1, api.Range},
		{level.Job{G: g, Depth: 1, Prog: prog.Prog{{Kind: 77}}}, 0, api.Arg},
		{level.Job{G: g, Depth: 1}, 0, api.Arg}, {level.Job{G: g, Depth: 1}, -1, api.Arg}, {level.Job{G: g, Depth: 1}, 65, api.Arg},
		{level.Job{G: g, Depth: 1}, math.MaxInt, api.Arg}, {level.Job{G: g, Depth: 1}, math.MinInt, api.Arg},
	} {
		if e, err := New(c.j, c.workers); e != nil || fault.Code(err) != c.code {
			t.Errorf("P21.1: %d: %v", i, err)
		}
	}
	e := must(t, level.Job{G: g, Depth: 1}, 64)
	if e.Round() != 0 || e.Done() || len(e.Share(0)) != 0 {
		t.Error("P21.1: a new engine")
	}
	if levels, err := e.Levels(); levels != nil || fault.Code(err) != api.None {
		t.Errorf("P21.2: it isn't done: %v", err)
	}
}

func TestTriangle(t *testing.T) {
	e := must(t, level.Job{G: of(t, make([]int, 3), 0, 1, 0, 2, 1, 2), Depth: 3}, 2)
	shares := [][][][]int{
		{{{0}, {1}}, {{0, 1}, {0, 2}}, {{0, 1, 2}}},
		{{{2}}, {{1, 2}}, nil},
	}
	for round := range 4 {
		for w := range 2 {
			if got := e.Share(w); !same(got, shares[w][:max(round-1, 0)]) {
				t.Errorf("P21.2: round %d: %v", round, got)
			}
		}
		if e.Round() != round || e.Done() {
			t.Errorf("P21.1: done at round %d", round)
		}
		if err := e.Finish(); err != nil {
			t.Error(err)
		}
	}
	levels, err := e.Levels()
	if err != nil || !e.Done() || !same(levels, [][][]int{{{0}, {1}, {2}}, {{0, 1}, {0, 2}, {1, 2}}, {{0, 1, 2}}}) {
		t.Errorf("P21.2: %v, %v", levels, err)
	}
	for i, err := range []error{e.Work(0), e.Deliver(0), e.Double(0), e.Crash(0), e.Pass(), e.Finish()} {
		if fault.Code(err) != api.None {
			t.Errorf("P21.1: call %d when it is done: %v", i, err)
		}
	}
	if err := e.Run(); err != nil || e.Round() != 4 {
		t.Errorf("P21.2: Run when it is done: %v", err)
	}
	e.Share(0)[0][0][0] = 99
	levels[0][0][0] = 99
	if e.Share(0)[0][0][0] != 0 {
		t.Error("P21.2: what is told is the caller's")
	}
}

func TestDone(t *testing.T) {
	edge := of(t, make([]int, 2), 0, 1)
	for i, c := range []struct {
		j     level.Job
		round int
	}{
		{level.Job{G: of(t, nil), Depth: 1}, 2}, {level.Job{G: of(t, nil), Depth: 8}, 2}, {level.Job{G: edge, Depth: 1}, 2},
		{level.Job{G: edge, Depth: 2}, 3}, {level.Job{G: edge, Depth: 3}, 4}, {level.Job{G: edge, Depth: 8}, 4}, {level.Job{G: edge, Edges: true, Depth: 8}, 3},
		{level.Job{G: edge, Depth: 8, Prog: prog.Prog{{Kind: prog.Size, N: 0}}}, 2},
	} {
		e := must(t, c.j, 3)
		for !e.Done() {
			if e.Round() > 9 || e.Finish() != nil {
				t.Fatalf("P21.1: %d isn't done", i)
			}
		}
		if e.Round() != c.round {
			t.Errorf("P21.1: %d is done at %d", i, e.Round())
		}
	}
}

func TestMachine(t *testing.T) {
	e := must(t, level.Job{G: of(t, make([]int, 3), 0, 1, 1, 2), Depth: 2}, 2)
	if fault.Code(e.Work(2)) != api.Range || fault.Code(e.Work(-1)) != api.Range || fault.Code(e.Crash(2)) != api.Range || fault.Code(e.Deliver(0)) != api.Range || fault.Code(e.Double(0)) != api.Range {
		t.Error("P21.1: Range")
	}
	if fault.Code(e.Pass()) != api.None || e.Work(0) != nil || fault.Code(e.Work(0)) != api.There || e.Work(1) != nil {
		t.Error("P21.1: Work")
	}
	if err := e.Pass(); fault.Code(err) != api.Cap || fault.At(err) != 4 {
		t.Errorf("P21.1: Pass: %v", err)
	}
	if e.Double(0) != nil || e.Deliver(4) != nil || e.Deliver(0) != nil || e.Deliver(2) != nil || e.Deliver(1) != nil || e.Deliver(0) != nil || e.Pass() != nil || e.Round() != 1 {
		t.Error("P21.1: a round by hand")
	}
	if e.Work(1) != nil || e.Crash(0) != nil || fault.Code(e.Pass()) != api.None || len(e.Share(0)) != 0 {
		t.Error("P21.1: a crash")
	}
	for _, w := range []int{-1, 2, math.MinInt, math.MaxInt} {
		if e.Share(w) != nil {
			t.Errorf("P21.2: the share of %d", w)
		}
	}
}

func TestJobIsItsOwn(t *testing.T) {
	j := level.Job{G: of(t, make([]int, 3), 0, 1, 1, 2), Depth: 2, Prog: prog.Prog{{Kind: prog.Size, N: 8}}}
	e := must(t, j, 2)
	j.Prog[0].N = 0
	err := e.Run()
	if levels, other := e.Levels(); err != nil || other != nil || len(levels) != 2 {
		t.Errorf("P21.1: %v, %v", err, other)
	}
}

func TestNil(t *testing.T) {
	var e *Engine
	levels, err := e.Levels()
	for i, err := range []error{err, e.Work(0), e.Deliver(0), e.Double(0), e.Crash(0), e.Pass(), e.Finish(), e.Run()} {
		if fault.Code(err) != api.Nil {
			t.Errorf("P21.2: %d: %v", i, err)
		}
	}
	if levels != nil || e.Round() != 0 || e.Done() || e.Share(0) != nil {
		t.Error("P21.2: nil")
	}
	zero := new(Engine)
	if _, err := zero.Levels(); zero.Run() == nil || err == nil || zero.Share(0) != nil || zero.Round() != 0 {
		t.Error("P21.2: a zero engine")
	}
}

// shares tells what each worker's shares are, just as the words are.
func shares(t *testing.T, j level.Job, workers int) [][][][]int {
	t.Helper()
	all := make([][][][]int, workers)
	start, err := level.Start(j)
	if err != nil {
		t.Fatal(err)
	}
	sent := make([][][]int, workers)
	for i, l := range start {
		sent[i%workers] = append(sent[i%workers], l)
	}
	for n := 1; n <= j.Depth; n++ {
		merged, err := odag.Of(n, nil)
		for _, lists := range sent {
			if o, e := odag.Of(n, lists); e == nil {
				merged, err = merged.Merge(o)
			}
		}
		ranks, _ := rank.Of(merged)
		if err != nil || ranks.Total() == 0 {
			break
		}
		parts, _ := rank.Split(ranks.Total(), workers)
		sent = make([][][]int, workers)
		for w, p := range parts {
			var share [][]int
			for path := range ranks.Each(p) {
				if level.Keeps(j, path) {
					more, _ := level.Grow(j, path)
					share, sent[w] = append(share, path), append(sent[w], more...)
				}
			}
			all[w] = append(all[w], share)
		}
	}
	return all
}

func TestLevels(t *testing.T) {
	r := rand.New(rand.NewSource(21))
	for range 60 {
		j, workers := jobOf(t, r), []int{1, 2, 3, 7, 64}[r.Intn(5)]
		want, err := level.All(j, math.MaxInt)
		if err != nil {
			t.Fatal(err)
		}
		e := must(t, j, workers)
		if err := e.Run(); err != nil {
			t.Fatalf("P21.3: %v", err)
		}
		levels, err := e.Levels()
		if err != nil || !same(levels, want) {
			t.Fatalf("P21.3: %d workers: %v, not %v; %v", workers, levels, want, err)
		}
		seen := map[string]int{}
		all := shares(t, j, workers)
		for w := range workers {
			share := e.Share(w)
			if !same(share, all[w]) {
				t.Fatalf("P21.2: the share of %d of %d: %v, not %v", w, workers, share, all[w])
			}
			for _, lists := range share {
				if !slices.IsSortedFunc(lists, sets.Compare) {
					t.Fatalf("P21.2: shares are in order")
				}
				for _, l := range lists {
					if seen[fmt.Sprint(l)]++; seen[fmt.Sprint(l)] > 1 {
						t.Fatalf("P21.3: %v is in two shares", l)
					}
				}
			}
		}
	}
}

func TestWhateverHappens(t *testing.T) {
	r := rand.New(rand.NewSource(213))
	for range 60 {
		j, workers := jobOf(t, r), 1+r.Intn(4)
		plain := must(t, j, workers)
		if err := plain.Run(); err != nil {
			t.Fatal(err)
		}
		e := must(t, j, workers)
		for steps := 0; !e.Done(); steps++ {
			switch r.Intn(12) {
			case 0, 1, 2:
				e.Work(r.Intn(workers))
			case 3:
				e.Double(r.Intn(9))
			case 4:
				if steps < 300 {
					e.Crash(r.Intn(workers))
				}
			case 5:
				e.Pass()
			case 6:
				if r.Intn(20) == 0 {
					e.Finish()
				}
			default:
				e.Deliver(r.Intn(9))
			}
		}
		want, _ := plain.Levels()
		got, err := e.Levels()
		if err != nil || !same(got, want) || e.Round() != plain.Round() {
			t.Fatalf("P21.3: %v, not %v", got, want)
		}
		for w := range workers {
			if !same(e.Share(w), plain.Share(w)) {
				t.Fatalf("P21.3: the share of %d", w)
			}
		}
	}
}
