package run

import (
	"fmt"
	"math"
	"math/rand"
	"slices"
	"strings"
	"testing"

	"fretwork/api"
	"fretwork/conf"
	"fretwork/fault"
	"fretwork/graph"
	"fretwork/load"
	"fretwork/wire"
)

const (
	triangle = "v 0 0\nv 1 0\nv 2 0\ne 0 1\ne 0 2\ne 1 2\n"
	path     = "v 0 0\nv 1 0\nv 2 0\ne 0 2\ne 2 1\n"
)

// star tells the text of a vertex with so many others beside it.
func star(n int) string {
	var b strings.Builder
	for v := range n + 1 {
		fmt.Fprintf(&b, "v %d 0\n", v)
	}
	for v := range n {
		fmt.Fprintf(&b, "e 0 %d\n", v+1)
	}
	return b.String()
}

// only tells whether an error has just one fault, of a code and a place, in the step run.
func only(e error, code, at int) bool {
	for other := 1; other <= api.Down; other++ {
		if fault.Is(e, other) != (other == code) {
			return false
		}
	}
	return fault.Code(e) == code && fault.At(e) == at && slices.Equal(fault.Words(e), []string{"run"})
}

func TestPlan(t *testing.T) {
	c, g, err := Plan([]byte(triangle), []byte("job motifs\nsize 3\nworkers 5\n"))
	if err != nil || g.Size() != 3 || c.Kind != conf.Motifs || c.Workers != 5 {
		t.Errorf("P24.1: %v", err)
	}
	read, _ := load.Text(triangle)
	if _, g, err := Plan(load.Pack(read), []byte("job motifs\nsize 3\n")); err != nil || !g.Same(read) {
		t.Errorf("P24.1: bytes: %v", err)
	}
	bad := load.Pack(read)
	bad[12]++
	for i, c := range []struct {
		g, c     string
		code, at int
	}{
		{"v 0 0\nx\n", "job", api.Graph, 1}, {"v 0 0\nv 1 0\ne 1 1\n", "", api.Graph, 2}, {string(bad), "", api.Graph, 0}, {"FWRK", "", api.Graph, 0},
		{strings.Repeat("x", api.MaxText+1), "", api.Graph, 0}, {string(wire.Pack(2, nil)), "", api.Graph, 0},
		{triangle, "", api.Config, 0}, {triangle, "job motifs\nsize 9\n", api.Config, 1}, {triangle, "job fsm\nsize 1\n", api.Config, 2}, {triangle, strings.Repeat("x", api.MaxText+1), api.Config, 0},
		{star(182), "job fsm\nsize 1\nsupport 1\n", api.Cap, 0},
	} {
		asked, g, e1 := Plan([]byte(c.g), []byte(c.c))
		a, e2 := Run([]byte(c.g), []byte(c.c), Fair(20))
		b, e3 := Whole([]byte(c.g), []byte(c.c))
		d, e4 := Plain([]byte(c.g), []byte(c.c))
		for k, err := range []error{e1, e2, e3, e4} {
			if !only(err, c.code, c.at) {
				t.Errorf("P24.1: %d: call %d: %v at %d", i, k, err, fault.At(err))
			}
		}
		if asked.Kind != 0 || g != nil || a != "" || b != "" || d != "" {
			t.Errorf("P24.1: %d: answers", i)
		}
	}
	if _, _, err := Plan([]byte(star(182)), []byte("job motifs\nsize 2\n")); err != nil {
		t.Errorf("P24.1: a job that needs no line graph: %v", err)
	}
}

func TestExamples(t *testing.T) {
	for i, c := range []struct{ g, c, want string }{
		{triangle, "job cliques\nsize 2\n", "0\n1\n2\n0 1\n0 2\n1 2\n"}, {path, "job motifs\nsize 3\n", "1 0,0,0|0-1,0-2\n"},
		{"", "job motifs\nsize 3\n", ""}, {"v 0 7\n", "job cliques\nsize 8\nworkers 64\n", "0\n"}, {path, "job fsm\nsize 1\nsupport 3\n", "3 0,0|0-1\n"},
	} {
		whole, e1 := Whole([]byte(c.g), []byte(c.c))
		plain, e2 := Plain([]byte(c.g), []byte(c.c))
		if e1 != nil || e2 != nil || whole != c.want || plain != c.want {
			t.Errorf("P24.2: %d: %q, %v; %q, %v", i, whole, e1, plain, e2)
		}
	}
}

func TestScriptAndCap(t *testing.T) {
	g, c := []byte(triangle), []byte("job motifs\nsize 3\nworkers 2\n")
	for rounds := range 4 {
		if s, err := Run(g, c, Fair(rounds)); s != "" || !only(err, api.Script, rounds) {
			t.Errorf("P24.1: %d rounds: %v at %d", rounds, err, fault.At(err))
		}
	}
	if s, err := Run(g, c, Fair(4)); err != nil || s != "1 0,0,0|0-1,0-2,1-2\n" {
		t.Errorf("P24.1: %q, %v", s, err)
	}
	if _, err := Run(g, c, []Act{{Work, 0}, {Work, 1}, {Pass, 0}, {Finish, 0}, {9, 0}, {-1, 0}, {Crash, 1}, {Work, 7}, {Deliver, -1}, {math.MaxInt, math.MinInt}}); !only(err, api.Script, 1) {
		t.Errorf("P24.1: what the engine tells is let go: %v at %d", err, fault.At(err))
	}
	for limit, code := range map[string]int{"7": 0, "6": api.Cap, "1": api.Cap} {
		capped := []byte("job motifs\nsize 3\ncap " + limit + "\n")
		s, e1 := Whole(g, capped)
		p, e2 := Plain(g, capped)
		if code == 0 && (e1 != nil || e2 != nil || s != p) {
			t.Errorf("P24.1: cap %s: %v, %v", limit, e1, e2)
		}
		if code != 0 && (!only(e1, code, 7) || !only(e2, code, 0) || s+p != "") {
			t.Errorf("P24.1, P24.2: cap %s: %v at %d, %v at %d", limit, e1, fault.At(e1), e2, fault.At(e2))
		}
	}
}

func TestByHand(t *testing.T) {
	round := []Act{{Work, 1}, {Work, 0}, {Double, 0}, {Deliver, 4}, {Deliver, 1}, {Deliver, 2}, {Deliver, 1}, {Deliver, 0}, {Pass, 3}}
	s, err := Run([]byte(triangle), []byte("job cliques\nsize 1\nworkers 2\n"), append(round, Act{Work, 0}, Act{Crash, 1}, Act{Work, 0}, Act{Work, 1}, Act{Pass, 9}, Act{Crash, 0}))
	if err != nil || s != "0\n1\n2\n" {
		t.Errorf("P24.1: %q, %v", s, err)
	}
}

func TestFair(t *testing.T) {
	if Work != 0 || Deliver != 1 || Double != 2 || Crash != 3 || Pass != 4 || Finish != 5 {
		t.Error("P24.1: the kinds")
	}
	for _, rounds := range []int{0, -1, math.MinInt} {
		if len(Fair(rounds)) != 0 {
			t.Errorf("P24.2: %d", rounds)
		}
	}
	if !slices.Equal(Fair(3), []Act{{Kind: Finish}, {Kind: Finish}, {Kind: Finish}}) || len(Fair(1000)) != 1000 {
		t.Error("P24.2: Fair")
	}
	Fair(math.MaxInt)
}

// some tells the text of a random graph.
func some(r *rand.Rand, n, labels int) string {
	l := make([]int, n)
	var edges []api.Edge
	for a := range n {
		l[a] = r.Intn(labels)
		for b := range a {
			if r.Intn(5) < 2 {
				edges = append(edges, api.Edge{A: a, B: b})
			}
		}
	}
	g, _ := graph.New(l, edges)
	return load.Print(g)
}

func TestAnyTwoRuns(t *testing.T) {
	r := rand.New(rand.NewSource(24))
	for range 60 {
		g := []byte(some(r, r.Intn(8), 2))
		job := []string{"job motifs\n", "job cliques\n", fmt.Sprintf("job fsm\nsupport %d\n", 1+r.Intn(2))}[r.Intn(3)]
		job += []string{"", "keep free\n", "keep labels 0;size 3\n"}[r.Intn(3)] + fmt.Sprintf("size %d\n", 1+r.Intn(4))
		plain, err := Plain(g, []byte(job))
		if err != nil {
			t.Fatal(err)
		}
		for range 4 {
			workers := 1 + r.Intn(5)
			c := []byte(job + fmt.Sprintf("workers %d\n", workers))
			var l []Act
			for range r.Intn(150) {
				l = append(l, Act{Kind: []int{Work, Work, Work, Deliver, Deliver, Deliver, Double, Pass, Crash}[r.Intn(9)], N: r.Intn(workers + 1)})
			}
			whole, e1 := Whole(g, c)
			s, e2 := Run(g, c, append(l, Fair(6)...))
			if e1 != nil || e2 != nil || whole != plain || s != plain {
				t.Fatalf("P24.3: %q: %q and %q, not %q; %v, %v", c, whole, s, plain, e1, e2)
			}
			if s, err := Run(g, c, l); (err == nil && s != plain) || (err != nil && fault.Code(err) != api.Script) {
				t.Fatalf("P24.3: %q: %q, %v", c, s, err)
			}
		}
	}
}
