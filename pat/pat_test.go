package pat

import (
	"bytes"
	"math"
	"slices"
	"testing"

	"fretwork/api"
	"fretwork/fault"
	"fretwork/perm"
	"fretwork/wire"
)

func edges(ends ...int) []api.Edge {
	var l []api.Edge
	for i := 0; i+1 < len(ends); i += 2 {
		l = append(l, api.Edge{A: ends[i], B: ends[i+1]})
	}
	return l
}

func of(labels []int, ends ...int) api.Pat {
	return api.Pat{Labels: labels, Edges: edges(ends...)}
}

func same(p, q api.Pat) bool {
	return slices.Equal(p.Labels, q.Labels) && slices.Equal(p.Edges, q.Edges)
}

func none(p api.Pat) bool { return len(p.Labels) == 0 && len(p.Edges) == 0 }

func is(e error, code, at int) bool { return fault.Code(e) == code && fault.At(e) == at }

// wrongs are patterns that aren't right.
var wrongs = []struct {
	p        api.Pat
	code, at int
}{
	{of([]int{-1, 1, 1, 1, 1, 1, 1, 1, 1}, 9, 9), api.Large, 0},
	{of([]int{0, 256, -1}, 5, 5), api.Range, 1},
	{of([]int{0, math.MinInt}), api.Range, 1},
	{of([]int{0, 0}, 0, 1, 0, 2), api.Range, 1},
	{of([]int{0, 0}, 1, 0, 0, 2), api.Form, 0},
	{of([]int{0, 0}, -1, 1), api.Range, 0},
	{of([]int{0, 0}, 5, 5), api.Range, 0},
	{of([]int{0, 0}, math.MinInt, math.MaxInt), api.Range, 0},
	{of([]int{0, 0}, 0, 0), api.Form, 0},
	{of([]int{0, 0, 0}, 0, 1, 0, 1), api.Form, 1},
	{of([]int{0, 0, 0}, 0, 1, 1, 2, 0, 2), api.Form, 2},
	{of([]int{0, 0, 0}, 0, 2, 0, 1, 7, 7), api.Form, 1},
	{of(nil, 0, 1), api.Range, 0},
}

// rights are patterns that are right.
var rights = []api.Pat{
	{}, of([]int{}), of([]int{7}), of([]int{0, 255}, 0, 1), of([]int{1, 1, 1}, 0, 1, 0, 2, 1, 2), of([]int{3, 2, 1, 0}, 0, 3, 1, 2),
	of([]int{0, 1, 2, 3, 4, 5, 6, 7}, 0, 7, 1, 2, 1, 5, 6, 7), of(make([]int, 8)),
}

func TestRight(t *testing.T) {
	for i, c := range wrongs {
		if err := Right(c.p); !is(err, c.code, c.at) {
			t.Errorf("P8.1: %d: %v at %d", i, err, fault.At(err))
		}
	}
	for _, p := range rights {
		if err := Right(p); err != nil {
			t.Errorf("P8.1: %v: %v", p, err)
		}
	}
}

func TestMake(t *testing.T) {
	labels, l := []int{5, 6, 7}, edges(2, 1, 1, 0, 0, 2)
	p, err := Make(labels, l)
	if err != nil || !same(p, of([]int{5, 6, 7}, 0, 1, 0, 2, 1, 2)) || l[0].A != 2 {
		t.Errorf("P8.1: Make: %v, %v", p, err)
	}
	labels[0] = 9
	if p.Labels[0] != 5 {
		t.Error("P8.1: what is made is new memory")
	}
	for i, c := range []struct {
		p        api.Pat
		code, at int
	}{
		{of(make([]int, 9), 9, 9), api.Large, 0},
		{of([]int{0, 1, 999}, 9, 9), api.Range, 2},
		{of([]int{0, 0}, 1, 0, 2, 2), api.Range, 1},
		{of([]int{0, 0}, 1, 1, 2, 2), api.Form, 0},
		{of([]int{0, 0}, 1, 0, 0, 1), api.Form, 1},
		{of([]int{0, 0, 0}, 1, 0, 2, 1, 1, 2, 1, 1), api.Form, 2},
		{of([]int{0, 0, 0}, 1, 0, 2, 1, 2, 2, -1, 0), api.Form, 2},
		{of([]int{0, 0, 0}, 1, 0, -1, -1), api.Range, 1},
	} {
		if p, err := Make(c.p.Labels, c.p.Edges); !none(p) || !is(err, c.code, c.at) {
			t.Errorf("P8.1: %d: %v at %d", i, err, fault.At(err))
		}
	}
}

func TestHasAndDegree(t *testing.T) {
	p := of([]int{0, 0, 0, 0}, 0, 2, 1, 2)
	if !Has(p, 0, 2) || !Has(p, 2, 0) || Has(p, 0, 1) || Has(p, 2, 2) || Has(p, -1, 2) || Has(p, 9, 0) {
		t.Error("P8.1: Has")
	}
	for v, want := range map[int]int{0: 1, 1: 1, 2: 2, 3: 0, -1: 0, 4: 0, math.MaxInt: 0} {
		if Degree(p, v) != want {
			t.Errorf("P8.1: the degree of %d", v)
		}
	}
}

func TestCompare(t *testing.T) {
	order := []api.Pat{
		{}, of([]int{0}), of([]int{9}), of([]int{0, 5}), of([]int{0, 5}, 0, 1), of([]int{1, 0}),
		of([]int{0, 0, 0}), of([]int{0, 0, 0}, 0, 1), of([]int{0, 0, 0}, 0, 2), of([]int{0, 0, 0}, 1, 2),
		of([]int{0, 0, 0}, 0, 1, 0, 2), of([]int{0, 0, 0}, 0, 1, 1, 2), of([]int{0, 0, 1}), of([]int{0, 1, 0}), of(make([]int, 8)),
	}
	for i, p := range order {
		for j, q := range order {
			if c := Compare(p, q); (c < 0) != (i < j) || (c > 0) != (i > j) || c < -1 || c > 1 {
				t.Errorf("P8.1: %v and %v: %d", p, q, c)
			}
		}
	}
}

func TestRightsErrorFirst(t *testing.T) {
	for i, c := range wrongs {
		a, e1 := Turn(c.p, []int{5, 5})
		b, e2 := Sub(c.p, []int{99})
		d, e3 := Less(c.p, api.Edge{A: 98, B: 99})
		if !none(a) || !none(b) || !none(d) || !is(e1, c.code, c.at) || !is(e2, c.code, c.at) || !is(e3, c.code, c.at) || Connected(c.p) {
			t.Errorf("P8.2, P8.3: %d", i)
		}
		Text(c.p)
		Bytes(c.p)
		Has(c.p, 0, 1)
		Degree(c.p, 0)
		if Compare(c.p, c.p) != 0 {
			t.Errorf("P8.1: %d", i)
		}
	}
}

func TestTurn(t *testing.T) {
	p := of([]int{5, 6, 7}, 0, 1)
	if q, err := Turn(p, []int{2, 0, 1}); err != nil || !same(q, of([]int{6, 7, 5}, 0, 2)) || p.Labels[0] != 5 {
		t.Errorf("P8.2: %v, %v", q, err)
	}
	for i, c := range []struct {
		order []int
		at    int
	}{{[]int{0, 0, 1}, 0}, {[]int{1, 2, 3}, 0}, {[]int{3, 0}, 0}, {[]int{1, 0}, 1}, {nil, 1}, {[]int{0, 1, 2, 3}, 1}} {
		if q, err := Turn(p, c.order); !none(q) || !is(err, api.Arg, c.at) {
			t.Errorf("P8.2: %d: %v", i, err)
		}
	}
	for _, p := range rights {
		n := 0
		for o := range perm.All(len(p.Labels)) {
			if n++; n%97 != 1 && len(p.Labels) > 4 {
				continue
			}
			q, err := Turn(p, o)
			back, _ := perm.Back(o)
			again, other := Turn(q, back)
			if err != nil || other != nil || Right(q) != nil || !same(again, p) {
				t.Fatalf("P8.4: %v by %v", p, o)
			}
			for a := range p.Labels {
				if q.Labels[o[a]] != p.Labels[a] || Degree(q, o[a]) != Degree(p, a) {
					t.Fatalf("P8.2: %v by %v", p, o)
				}
			}
			for _, e := range p.Edges {
				if !Has(q, o[e.A], o[e.B]) {
					t.Fatalf("P8.2: %v by %v", p, o)
				}
			}
		}
	}
}

func TestSub(t *testing.T) {
	p := of([]int{5, 6, 7, 8}, 0, 1, 1, 2, 2, 3)
	for i, c := range []struct {
		vertices []int
		want     api.Pat
	}{
		{nil, api.Pat{}},
		{[]int{3}, of([]int{8})},
		{[]int{2, 1}, of([]int{7, 6}, 0, 1)},
		{[]int{3, 0, 2, 1}, of([]int{8, 5, 7, 6}, 0, 2, 1, 3, 2, 3)},
		{[]int{0, 3}, of([]int{5, 8})},
	} {
		if q, err := Sub(p, c.vertices); err != nil || !same(q, c.want) || Right(q) != nil {
			t.Errorf("P8.2: %d: %v, %v", i, q, err)
		}
	}
	for i, c := range []struct {
		vertices []int
		at       int
	}{{[]int{0, 4}, 1}, {[]int{-1, 9}, 0}, {[]int{0, 1, 0, 9}, 2}, {[]int{math.MaxInt}, 0}} {
		if q, err := Sub(p, c.vertices); !none(q) || !is(err, api.Range, c.at) {
			t.Errorf("P8.2: %d: %v", i, err)
		}
	}
}

func TestLess(t *testing.T) {
	p := of([]int{5, 6, 7}, 0, 1, 0, 2, 1, 2)
	for _, e := range edges(0, 2, 2, 0) {
		if q, err := Less(p, e); err != nil || !same(q, of([]int{5, 6, 7}, 0, 1, 1, 2)) {
			t.Errorf("P8.2: %v", q)
		}
	}
	if q, err := Less(p, api.Edge{A: 1, B: 0}); err != nil || !same(q, of([]int{5, 6, 7}, 0, 2, 1, 2)) {
		t.Errorf("P8.2: %v", q)
	} else {
		q.Labels[0], q.Edges[0] = 99, api.Edge{A: 7, B: 8}
	}
	if !same(p, of([]int{5, 6, 7}, 0, 1, 0, 2, 1, 2)) {
		t.Error("P8.2: what is handed in stays")
	}
	for _, e := range edges(0, 0, 0, 3, -1, 1, math.MinInt, math.MaxInt) {
		if q, err := Less(p, e); !none(q) || fault.Code(err) != api.None {
			t.Errorf("P8.2: without %v: %v", e, err)
		}
	}
}

func TestConnected(t *testing.T) {
	for i, p := range []api.Pat{of([]int{7}), of([]int{0, 0}, 0, 1), of(make([]int, 4), 0, 3, 1, 2, 2, 3), of(make([]int, 8), 0, 7, 1, 6, 1, 7, 2, 5, 2, 6, 3, 4, 3, 5)} {
		if !Connected(p) {
			t.Errorf("P8.3: %d is connected", i)
		}
	}
	for i, p := range []api.Pat{{}, of([]int{0, 0}), of(make([]int, 4), 0, 1, 2, 3), of(make([]int, 4), 0, 1, 0, 2, 1, 2)} {
		if Connected(p) {
			t.Errorf("P8.3: %d isn't connected", i)
		}
	}
}

func TestText(t *testing.T) {
	for want, p := range map[string]api.Pat{
		"|": {}, "7|": of([]int{7}), "1,1,1|0-1,0-2,1-2": of([]int{1, 1, 1}, 0, 1, 0, 2, 1, 2), "0,255|0-1": of([]int{0, 255}, 0, 1),
	} {
		if Text(p) != want {
			t.Errorf("P8.3: %q, not %q", Text(p), want)
		}
	}
}

func TestBytes(t *testing.T) {
	p := of([]int{4, 5, 6}, 0, 1, 1, 2)
	var w wire.Writer
	w.List([]int{4, 5, 6})
	w.List([]int{0, 1, 1, 2})
	if !bytes.Equal(Bytes(p), w.Bytes()) {
		t.Errorf("P8.3: %v", Bytes(p))
	}
	for _, p := range rights {
		if q, err := Of(Bytes(p)); err != nil || !same(p, q) {
			t.Errorf("P8.3: %v: %v", p, err)
		}
	}
	var whole api.Pat
	for a := range 8 {
		whole.Labels = append(whole.Labels, 8-a)
		for b := a + 1; b < 8; b++ {
			whole.Edges = append(whole.Edges, api.Edge{A: a, B: b})
		}
	}
	if q, err := Of(Bytes(whole)); err != nil || !same(q, whole) {
		t.Errorf("P8.3: all edges: %v", err)
	}
	for i, c := range wrongs {
		outside := func(n int) bool { return n < 0 || n > math.MaxUint32 }
		if slices.ContainsFunc(c.p.Labels, outside) || slices.ContainsFunc(c.p.Edges, func(e api.Edge) bool { return outside(e.A) || outside(e.B) }) {
			continue
		}
		if q, err := Of(Bytes(c.p)); !none(q) || !is(err, c.code, c.at) {
			t.Errorf("P8.3: %d: %v", i, err)
		}
	}
}

func TestOfErrors(t *testing.T) {
	b := Bytes(of([]int{4, 5}, 0, 1))
	for n := range b {
		if q, err := Of(b[:n]); !none(q) || fault.Code(err) != api.End {
			t.Errorf("P8.3: %d bytes: %v", n, err)
		}
	}
	if q, err := Of(append(slices.Clone(b), 0)); !none(q) || !is(err, api.Form, len(b)) {
		t.Errorf("P8.3: a byte behind: %v", err)
	}
	var odd, late wire.Writer
	odd.List([]int{999})
	odd.List([]int{0, 1, 0})
	late.List(make([]int, 9))
	if q, err := Of(odd.Bytes()); !none(q) || fault.Code(err) != api.Form {
		t.Errorf("P8.3: an odd list: %v", err)
	}
	if q, err := Of(late.Bytes()); !none(q) || fault.Code(err) != api.End {
		t.Errorf("P8.3: no list of edges: %v", err)
	}
	if _, err := Of([]byte{255, 255, 255, 255}); fault.Code(err) != api.End {
		t.Errorf("P8.3: a list that is too long: %v", err)
	}
}
