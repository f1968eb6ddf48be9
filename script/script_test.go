package script

import (
	"math"
	"math/rand"
	"slices"
	"strings"
	"testing"

	"fretwork/api"
	"fretwork/fault"
	"fretwork/run"
)

func TestParse(t *testing.T) {
	for text, want := range map[string][]run.Act{
		"":               nil,
		"work 1\npass\n": {{Kind: run.Work, N: 1}, {Kind: run.Pass}},
		"deliver 0\ndouble 999999\ncrash 10\nfinish\n": {{Kind: run.Deliver}, {Kind: run.Double, N: 999999}, {Kind: run.Crash, N: 10}, {Kind: run.Finish}},
	} {
		l, err := Parse(text)
		if err != nil || !slices.Equal(l, want) || Text(want) != text || Right(want) != nil {
			t.Errorf("P25.1: %q: %v, %v", text, l, err)
		}
	}
	for _, line := range []string{"", " ", "work", "work ", "work  1", "work 1 ", " work 1", "work 01", "work 00", "work -1", "work +1", "work 1000000", "work 99999999999999999999", "work 1a", "work x", "work 1 2",
		"pass 0", "pass ", " pass", "Pass", "finish 1", "finish\r", "workers 1", "wor 1", "double", "deliver", "crash\t1", "x", "work\n1"} {
		if l, err := Parse("pass\nwork 5\n" + line + "\nx\n"); l != nil || fault.Code(err) != api.Script || fault.At(err) != 2 {
			t.Errorf("P25.1: %q: %v at %d", line, err, fault.At(err))
		}
	}
	for text, at := range map[string]int{"pass": 0, "pass\nwork 1": 1, "pass\nfinish\nx": 2} {
		if l, err := Parse(text); l != nil || fault.Code(err) != api.Script || fault.At(err) != at {
			t.Errorf("P25.1: %q: %v at %d", text, err, fault.At(err))
		}
	}
	long := strings.Repeat("work 10\n", api.MaxText/8)
	if l, err := Parse(long); err != nil || len(l) != api.MaxText/8 {
		t.Errorf("P25.1: as long as may be: %v", err)
	}
	if l, err := Parse(long + "pass\n"); l != nil || fault.Code(err) != api.Large {
		t.Errorf("P25.1: a long text: %v", err)
	}
}

func TestRightTextCount(t *testing.T) {
	good := run.Act{Kind: run.Work, N: 3}
	for i, a := range []run.Act{{Kind: -1}, {Kind: 6}, {Kind: math.MaxInt}, {Kind: run.Work, N: -1}, {Kind: run.Crash, N: 1000000}, {Kind: run.Double, N: math.MinInt}, {Kind: run.Deliver, N: math.MaxInt},
		{Kind: run.Pass, N: 1}, {Kind: run.Finish, N: -1}} {
		l := []run.Act{good, a, {Kind: 99}}
		if err := Right(l); fault.Code(err) != api.Script || fault.At(err) != 1 || Text(l) != "work 3\n" {
			t.Errorf("P25.1: %d: %v, %q", i, err, Text(l))
		}
	}
	if Right(nil) != nil || Text(nil) != "" || Count(nil, 0) != 0 {
		t.Error("P25.1: no acts")
	}
	l := []run.Act{{Kind: run.Pass}, good, {Kind: run.Pass}, {Kind: 77, N: 2}}
	if Count(l, run.Pass) != 2 || Count(l, run.Work) != 1 || Count(l, 77) != 1 || Count(l, run.Crash) != 0 || Count(l, math.MinInt) != 0 {
		t.Error("P25.1: Count")
	}
}

func TestAgain(t *testing.T) {
	r := rand.New(rand.NewSource(25))
	for range 200 {
		var l []run.Act
		for range r.Intn(20) {
			a := run.Act{Kind: r.Intn(6)}
			if a.Kind != run.Pass && a.Kind != run.Finish {
				a.N = r.Intn(1000000) / []int{1, 1000, 100000}[r.Intn(3)]
			}
			l = append(l, a)
		}
		got, err := Parse(Text(l))
		if err != nil || Right(l) != nil || !slices.Equal(got, l) || Text(got) != Text(l) {
			t.Fatalf("P25.3: %v: %v, %v", l, got, err)
		}
	}
}

func TestRun(t *testing.T) {
	graph, job := []byte("v 0 0\nv 1 0\ne 0 1\n"), []byte("job cliques\nsize 2\nworkers 2\n")
	s, err := Run(graph, job, "work 1\nwork 0\ndouble 0\ndeliver 0\ncrash 1\nfinish\nfinish\nfinish\nfinish\n")
	if err != nil || s != "0\n1\n0 1\n" {
		t.Errorf("P25.2: %q, %v", s, err)
	}
	for i, c := range []struct {
		graph, job, script string
		code, at           int
		word               string
	}{
		{"x", "x", "x", api.Graph, 0, "run"}, {"v 0 0\n", "x", "x", api.Config, 0, "run"}, {"v 0 0\n", "job motifs\nsize 1\n", "pass\nx", api.Script, 1, "script"},
		{"v 0 0\n", "job motifs\nsize 1\n", strings.Repeat("x", api.MaxText+1), api.Script, 0, "script"}, {"v 0 0\n", "job motifs\nsize 1\n", "finish\npass\n", api.Script, 1, "run"},
		{"v 0 0\n", "job motifs\nsize 1\n", "", api.Script, 0, "run"}, {"v 0 0\nv 1 0\n", "job motifs\nsize 1\ncap 1\n", "finish\nfinish\n", api.Cap, 2, "run"},
	} {
		s, err := Run([]byte(c.graph), []byte(c.job), c.script)
		if s != "" || fault.Code(err) != c.code || fault.At(err) != c.at || !slices.Equal(fault.Words(err), []string{c.word}) || fault.Is(err, api.Large) {
			t.Errorf("P25.2: %d: %v at %d", i, err, fault.At(err))
		}
	}
}
