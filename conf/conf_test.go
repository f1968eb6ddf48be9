package conf

import (
	"math"
	"math/rand"
	"slices"
	"strings"
	"testing"

	"fretwork/api"
	"fretwork/fault"
	"fretwork/prog"
)

func same(a, b Conf) bool {
	keep := slices.Equal(a.Keep, b.Keep)
	return keep && a.Kind == b.Kind && a.Size == b.Size && a.Support == b.Support && a.Workers == b.Workers && a.Cap == b.Cap
}

func TestParse(t *testing.T) {
	for text, want := range map[string]Conf{
		"job motifs\nsize 3\n":                   {Kind: Motifs, Size: 3, Workers: 1, Cap: 1000000},
		"job cliques\nworkers 64\nsize 8\n":      {Kind: Cliques, Size: 8, Workers: 64, Cap: 1000000},
		"job fsm\nsupport 1000000\nsize 1\n":     {Kind: Fsm, Size: 1, Support: 1000000, Workers: 1, Cap: 1000000},
		"job fsm\ncap 1\nsize 2\nsupport 1\n":    {Kind: Fsm, Size: 2, Support: 1, Workers: 1, Cap: 1},
		"job motifs\nkeep free;size 3\nsize 1\n": {Kind: Motifs, Size: 1, Workers: 1, Cap: 1000000, Keep: prog.Prog{{Kind: prog.Free}, {Kind: prog.Size, N: 3}}},
		"job motifs\nsize 3\ncap 1000000\nkeep " + strings.Repeat("free;", 14) + "free\n": {Kind: Motifs, Size: 3, Workers: 1, Cap: 1000000, Keep: slices.Repeat(prog.Prog{{Kind: prog.Free}}, 15)},
	} {
		if c, err := Parse(text); err != nil || !same(c, want) || Right(c) != nil {
			t.Errorf("P22.1: %q: %v, %v", text, c, err)
		}
	}
}

func TestParseErrors(t *testing.T) {
	for _, c := range []struct {
		text string
		at   int
	}{
		{"", 0}, {"\n", 0}, {"size 3\njob motifs\n", 0}, {"job\nsize 3\n", 0}, {"job \nsize 3\n", 0}, {"job motif\n", 0}, {"job Fsm\n", 0}, {"jobs fsm\n", 0}, {"job fsm \n", 0}, {" job fsm\n", 0}, {"job  fsm\n", 0},
		{"job motifs", 0}, {"job motifs\nsize 3", 1}, {"job motifs\nsize 3\ncap 5", 2},
		{"job motifs\n", 1}, {"job motifs\ncap 5\n", 2}, {"job fsm\nsize 3\n", 2}, {"job fsm\nsupport 3\n", 2},
		{"job motifs\njob motifs\nx\n", 1}, {"job motifs\nsize 3\nsize 3\n", 2}, {"job motifs\nsize 3\ncap 3\nworkers 3\ncap 3\n", 4},
		{"job motifs\nsize 3\nsizes 3\n", 2}, {"job motifs\nsize 3\n\n", 2}, {"job motifs\nsize 3\nx 1\n", 2}, {"job motifs\n 1\nsize 3\n", 1},
		{"job motifs\nsize 0\n", 1}, {"job motifs\nsize 9\n", 1}, {"job motifs\nsize 03\n", 1}, {"job motifs\nsize -3\n", 1}, {"job motifs\nsize +3\n", 1}, {"job motifs\nsize\n", 1}, {"job motifs\nsize \n", 1},
		{"job motifs\nsize  3\n", 1}, {"job motifs\nsize 3 \n", 1}, {"job motifs\nsize 3x\n", 1}, {"job motifs\nsize 3\r\n", 1},
		{"job motifs\nworkers 0\n", 1}, {"job motifs\nworkers 65\n", 1}, {"job motifs\ncap 0\n", 1}, {"job motifs\ncap 1000001\n", 1}, {"job motifs\ncap 10000000\n", 1}, {"job motifs\ncap 00000001\n", 1},
		{"job motifs\nsupport 3\nsize 3\n", 1}, {"job cliques\nsize 3\nsupport 3\n", 2}, {"job fsm\nsupport 0\n", 1}, {"job fsm\nsupport 1000001\n", 1}, {"job fsm\nsize 3\nsupport 99999999999999999999\n", 2},
		{"job motifs\nkeep \nsize 3\n", 1}, {"job motifs\nkeep\nsize 3\n", 1}, {"job motifs\nkeep x\n", 1}, {"job motifs\nkeep labels 256\n", 1}, {"job motifs\nkeep free;\n", 1},
		{"job motifs\nkeep " + strings.Repeat("free;", 15) + "free\n", 1},
	} {
		if got, err := Parse(c.text); !same(got, Conf{}) || got.Keep != nil || fault.Code(err) != api.Config || fault.At(err) != c.at {
			t.Errorf("P22.1: %q: %v at %d", c.text, err, fault.At(err))
		}
	}
	long := strings.Repeat("x", api.MaxText)
	if _, err := Parse(long + "x"); fault.Code(err) != api.Large {
		t.Errorf("P22.1: a long text: %v", err)
	}
	if _, err := Parse(long); fault.Code(err) != api.Config || fault.At(err) != 0 {
		t.Errorf("P22.1: a text that is nearly too long: %v", err)
	}
}

func TestRight(t *testing.T) {
	good := Conf{Kind: Fsm, Size: 8, Support: 1, Workers: 1, Cap: 1, Keep: prog.Prog{{Kind: prog.Clique}}}
	if err := Right(good); err != nil {
		t.Errorf("P22.1: %v", err)
	}
	change := func(f func(c *Conf)) Conf {
		c := good
		f(&c)
		return c
	}
	for i, c := range []Conf{
		{}, change(func(c *Conf) { c.Kind = 0 }), change(func(c *Conf) { c.Kind = 4 }), change(func(c *Conf) { c.Kind = math.MinInt }), change(func(c *Conf) { c.Kind = Motifs }),
		change(func(c *Conf) { c.Kind = Cliques }), change(func(c *Conf) { c.Size = 0 }), change(func(c *Conf) { c.Size = 9 }), change(func(c *Conf) { c.Support = 0 }), change(func(c *Conf) { c.Support = -1 }),
		change(func(c *Conf) { c.Support = 1000001 }), change(func(c *Conf) { c.Workers = 0 }), change(func(c *Conf) { c.Workers = 65 }), change(func(c *Conf) { c.Cap = 0 }), change(func(c *Conf) { c.Cap = math.MaxInt }),
		change(func(c *Conf) { c.Keep = slices.Repeat(c.Keep, 16) }), change(func(c *Conf) { c.Keep = prog.Prog{{Kind: 9}} }), change(func(c *Conf) { c.Keep = prog.Prog{{Kind: prog.Free, N: 1}} }),
	} {
		if err := Right(c); fault.Code(err) != api.Config || fault.At(err) != 0 || Text(c) != "" {
			t.Errorf("P22.1: %d: %v", i, err)
		}
		Prog(c)
		Edges(c)
	}
}

func TestText(t *testing.T) {
	for want, c := range map[string]Conf{
		"job motifs\nsize 3\nworkers 1\ncap 1000000\n":                            {Kind: Motifs, Size: 3, Workers: 1, Cap: 1000000},
		"job fsm\nsize 2\nsupport 7\nkeep labels 3;free\nworkers 64\ncap 9\n":     {Kind: Fsm, Size: 2, Support: 7, Workers: 64, Cap: 9, Keep: prog.Prog{{Kind: prog.Labels, N: 3}, {Kind: prog.Free}}},
		"job cliques\nsize 8\nkeep clique;unlike;only 7\nworkers 2\ncap 100000\n": {Kind: Cliques, Size: 8, Workers: 2, Cap: 100000, Keep: prog.Prog{{Kind: prog.Clique}, {Kind: prog.Unlike}, {Kind: prog.Only, N: 7}}},
	} {
		if Text(c) != want {
			t.Errorf("P22.2: %q", Text(c))
		}
	}
	r := rand.New(rand.NewSource(22))
	for range 300 {
		c := Conf{Kind: 1 + r.Intn(3), Size: 1 + r.Intn(8), Workers: 1 + r.Intn(64), Cap: 1 + r.Intn(1000000)}
		if c.Kind == Fsm {
			c.Support = 1 + r.Intn(1000000)
		}
		for range r.Intn(16) {
			c.Keep = append(c.Keep, []prog.Op{{Kind: prog.Clique}, {Kind: prog.Labels, N: r.Intn(256)}, {Kind: prog.Size, N: 255}, {Kind: prog.Free}}[r.Intn(4)])
		}
		if d, err := Parse(Text(c)); err != nil || Right(c) != nil || !same(c, d) {
			t.Errorf("P22.3: %q: %v", Text(c), err)
		}
	}
}

func TestNameEdgesProg(t *testing.T) {
	for kind, name := range map[int]string{Motifs: "motifs", Cliques: "cliques", Fsm: "fsm", 0: "", 4: "", -1: "", math.MaxInt: ""} {
		if Name(kind) != name || Edges(Conf{Kind: kind}) != (name == "fsm") {
			t.Errorf("P22.2: %d", kind)
		}
	}
	keep := prog.Prog{{Kind: prog.Free}}
	for kind, want := range map[int]prog.Prog{Motifs: keep, Fsm: keep, Cliques: {{Kind: prog.Clique}, {Kind: prog.Free}}} {
		p := Prog(Conf{Kind: kind, Keep: keep})
		if !slices.Equal(p, want) {
			t.Errorf("P22.2: %v", p)
		}
		p[0].Kind = 99
	}
	if keep[0].Kind != prog.Free || len(Prog(Conf{Kind: Motifs})) != 0 || len(Prog(Conf{Kind: Cliques})) != 1 {
		t.Error("P22.2: Prog")
	}
}
