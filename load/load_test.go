package load

import (
	"bytes"
	"fmt"
	"math/rand"
	"strings"
	"testing"

	"fretwork/api"
	"fretwork/fault"
	"fretwork/graph"
	"fretwork/wire"
)

// is tells whether an error is of a code alone, at a place.
func is(e error, code, at int) bool {
	for other := 1; other <= api.Down; other++ {
		if fault.Is(e, other) && other != code {
			return false
		}
	}
	return fault.Code(e) == code && fault.At(e) == at
}

func must(t *testing.T, labels []int, edges ...api.Edge) *graph.Graph {
	t.Helper()
	g, err := graph.New(labels, edges)
	if err != nil {
		t.Fatal(err)
	}
	return g
}

func TestText(t *testing.T) {
	for i, c := range []struct {
		text string
		want *graph.Graph
	}{
		{"", must(t, nil)},
		{"v 0 5\nv 1 5\ne 0 1\n", must(t, []int{5, 5}, api.Edge{A: 0, B: 1})},
		{"v 0 0\nv 1 255\nv 2 10\ne 2 0\ne 1 0\n", must(t, []int{0, 255, 10}, api.Edge{A: 0, B: 1}, api.Edge{A: 0, B: 2})},
	} {
		g, err := Text(c.text)
		if err != nil || !g.Same(c.want) {
			t.Errorf("P5.1: %d: %v", i, err)
		}
		if again, err := Text(Print(c.want)); err != nil || !again.Same(c.want) {
			t.Errorf("P5.3: %d: %v", i, err)
		}
	}
}

func TestTextLines(t *testing.T) {
	const lead = "v 0 0\nv 1 1\ne 0 1\n"
	for _, line := range []string{"", "x", "x 1 2", "V 2 1", "v 2 1", "v 1 1", "v 3 1", "e", "e 0", "e 0 1 2", "e  0 1", "e 0  1", " e 0 1", "e 0 1 ",
		"e 00 1", "e 0 01", "e -1 0", "e +1 0", "e 0 0000000", "e 0 1000000", "e 0 1a", "e 0\t1", "e 0 1\r", "e 0 \xff", "e 0 ١", "e 1 ", "e", "ee 0 1"} {
		if g, err := Text(lead + line + "\nv x\n"); g != nil || !is(err, api.Graph, 3) {
			t.Errorf("P5.1: %q: %v at %d", line, err, fault.At(err))
		}
	}
	for _, c := range []struct {
		text string
		line int
	}{
		{"v 0 0", 0}, {"v 0 0\nv 1 1\ne 0 1", 2}, {"v 1 0\n", 0}, {"v 0 0\nv 0 0\n", 1}, {"v 0 0\nv 2 0\n", 1}, {"\n", 0}, {"e 0 1\nv 0 0\n", 1},
		{"v 0 0\n\n", 1}, {"v 0 999\nv 1\n", 1},
	} {
		if g, err := Text(c.text); g != nil || !is(err, api.Graph, c.line) {
			t.Errorf("P5.1: %q: %v at %d", c.text, err, fault.At(err))
		}
	}
}

func TestTextGraph(t *testing.T) {
	many := strings.Builder{}
	for v := range api.MaxVertices + 1 {
		fmt.Fprintf(&many, "v %d %d\n", v, 999)
	}
	for i, c := range []struct {
		text string
		line int
	}{
		{many.String(), 0},
		{"v 0 0\nv 1 256\nv 2 999999\ne 0 0\n", 1},
		{"v 0 0\nv 1 0\ne 0 1\ne 0 2\n", 3},
		{"v 0 255\nv 1 0\ne 0 1\ne 1 0\n", 3},
		{"v 0 0\nv 1 0\ne 0 1\ne 1 1\n", 3},
		{"v 0 0\nv 1 0\ne 0 1\ne 1 0\n", 3},
		{"e 0 1\n", 0},
		{"v 0 0\ne 999999 0\n", 1},
	} {
		if g, err := Text(c.text); g != nil || !is(err, api.Graph, c.line) {
			t.Errorf("P5.1: %d: %v at %d", i, err, fault.At(err))
		}
	}
}

func TestTextLarge(t *testing.T) {
	long := strings.Repeat("e 0 1\n", api.MaxText)
	if g, err := Text(long[:api.MaxText+1]); g != nil || !is(err, api.Large, 0) {
		t.Errorf("P5.1: a long text: %v", err)
	}
	if _, err := Text(long[:api.MaxText]); !is(err, api.Graph, api.MaxText/6) {
		t.Errorf("P5.1: a text that is nearly too long: %v at %d", err, fault.At(err))
	}
	if _, err := Any([]byte(long)); !is(err, api.Large, 0) {
		t.Errorf("P5.2: a long text: %v", err)
	}
}

func TestPrint(t *testing.T) {
	g := must(t, []int{5, 6, 7}, api.Edge{A: 2, B: 1}, api.Edge{A: 2, B: 0})
	if Print(g) != "v 0 5\nv 1 6\nv 2 7\ne 0 2\ne 1 2\n" || Print(nil) != "" {
		t.Errorf("P5.1: %q", Print(g))
	}
}

func TestPack(t *testing.T) {
	g := must(t, []int{5, 6, 7}, api.Edge{A: 2, B: 1}, api.Edge{A: 2, B: 0})
	var w wire.Writer
	w.List([]int{5, 6, 7})
	w.List([]int{0, 2, 1, 2})
	if !bytes.Equal(Pack(g), wire.Pack(1, w.Bytes())) {
		t.Errorf("P5.2: %v", Pack(g))
	}
	for _, read := range []func([]byte) (*graph.Graph, error){Bytes, Any} {
		if h, err := read(Pack(g)); err != nil || !h.Same(g) {
			t.Errorf("P5.2, P5.3: %v", err)
		}
		if h, err := read(Pack(nil)); err != nil || h.Len() != 0 {
			t.Errorf("P5.2: nil: %v", err)
		}
	}
	if h, err := Any([]byte(Print(g))); err != nil || !h.Same(g) {
		t.Errorf("P5.2: Any of a text: %v", err)
	}
	if h, err := Any(nil); err != nil || h.Len() != 0 {
		t.Errorf("P5.2: Any of nothing: %v", err)
	}
}

func TestBytesErrors(t *testing.T) {
	body := func(labels, ends []int, rest ...byte) []byte {
		var w wire.Writer
		w.List(labels)
		w.List(ends)
		return append(w.Bytes(), rest...)
	}
	good := wire.Pack(1, body([]int{0, 0}, []int{1, 0}))
	if g, err := Bytes(good); err != nil || g.Size() != 1 {
		t.Errorf("P5.2: an edge the other way round: %v", err)
	}
	badSum := bytes.Clone(good)
	badSum[len(badSum)-1]++
	for i, b := range [][]byte{
		nil, []byte("v 0 0\n"), good[:len(good)-1], append(bytes.Clone(good), 0), badSum, []byte("FWRK"),
		wire.Pack(0, body([]int{0, 0}, []int{1, 0})),
		wire.Pack(2, body([]int{0, 0}, []int{1, 0})),
		wire.Pack(1, nil),
		wire.Pack(1, body([]int{0, 0}, nil)[:12]),
		wire.Pack(1, body([]int{0, 0}, []int{1, 0}, 1)),
		wire.Pack(1, body([]int{0, 0}, []int{1, 0, 1})),
		wire.Pack(1, body([]int{0, 256}, []int{1, 0})),
		wire.Pack(1, body([]int{0, 0}, []int{1, 2})),
		wire.Pack(1, body([]int{0, 0}, []int{1, 1})),
		wire.Pack(1, body([]int{0, 0}, []int{0, 1, 1, 0})),
		wire.Pack(1, body(make([]int, api.MaxVertices+1), nil)),
	} {
		if g, err := Bytes(b); g != nil || !is(err, api.Graph, 0) {
			t.Errorf("P5.2: %d: %v", i, err)
		}
		if bytes.HasPrefix(b, []byte(mark)) {
			if g, err := Any(b); g != nil || !is(err, api.Graph, 0) {
				t.Errorf("P5.2: Any of %d: %v", i, err)
			}
		}
	}
}

func TestAgain(t *testing.T) {
	r := rand.New(rand.NewSource(5))
	for range 30 {
		labels := make([]int, r.Intn(40))
		var l []api.Edge
		for a := range labels {
			labels[a] = r.Intn(256)
			for b := range a {
				if r.Intn(4) == 0 {
					l = append(l, api.Edge{A: a, B: b})
				}
			}
		}
		g := must(t, labels, l...)
		if h, err := Any([]byte(Print(g))); err != nil || !h.Same(g) {
			t.Errorf("P5.3: printed: %v", err)
		}
		if h, err := Any(Pack(g)); err != nil || !h.Same(g) {
			t.Errorf("P5.3: packed: %v", err)
		}
	}
}
