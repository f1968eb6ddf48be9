package agg

import (
	"bytes"
	"math"
	"math/rand"
	"slices"
	"testing"

	"fretwork/api"
	"fretwork/canon"
	"fretwork/fault"
	"fretwork/pat"
	"fretwork/wire"
)

func of(labels []int, ends ...int) api.Pat {
	p := api.Pat{Labels: labels}
	for i := 0; i+1 < len(ends); i += 2 {
		p.Edges = append(p.Edges, api.Edge{A: ends[i], B: ends[i+1]})
	}
	return p
}

func some(r *rand.Rand, n, labels int) api.Pat {
	p := api.Pat{Labels: make([]int, n)}
	for a := range n {
		p.Labels[a] = r.Intn(labels)
		for b := a + 1; b < n; b++ {
			if r.Intn(2) == 0 {
				p.Edges = append(p.Edges, api.Edge{A: a, B: b})
			}
		}
	}
	return p
}

// table tells a table of rows.
func table(t *testing.T, rows ...Row) *Table {
	t.Helper()
	u := New()
	for _, r := range rows {
		if err := u.Add(r.Pat, r.N); err != nil {
			t.Fatal(err)
		}
	}
	return u
}

func same(a, b []Row) bool {
	return slices.EqualFunc(a, b, func(x, y Row) bool { return x.N == y.N && pat.Compare(x.Pat, y.Pat) == 0 })
}

var one, other, edge = of([]int{1}), of([]int{0, 0}), of([]int{0, 0}, 0, 1)

func TestAddGetRows(t *testing.T) {
	u := New()
	if len(u.Rows()) != 0 || u.Get(one) != 0 {
		t.Error("P16.1: an empty table")
	}
	labels := []int{1}
	for i, err := range []error{u.Add(edge, 2), u.Add(of(labels), 5), u.Add(other, 0), u.Add(edge, 1), u.Add(api.Pat{}, 3)} {
		if err != nil {
			t.Errorf("P16.1: %d: %v", i, err)
		}
	}
	labels[0] = 7
	want := []Row{{api.Pat{}, 3}, {one, 5}, {other, 0}, {edge, 3}}
	if !same(u.Rows(), want) || u.Get(edge) != 3 || u.Get(of([]int{2})) != 0 || u.Get(of([]int{0, 0}, 1, 0)) != 0 {
		t.Errorf("P16.1: %v", u.Rows())
	}
	u.Rows()[3].Pat.Labels[0], u.Rows()[3].Pat.Edges[0] = 9, api.Edge{A: 7, B: 7}
	if !same(u.Rows(), want) {
		t.Error("P16.1: what is told is the caller's")
	}
	if n, err := u.Total(); n != 11 || err != nil {
		t.Errorf("P16.1: the total is %d", n)
	}
	zero := new(Table)
	if err := zero.Add(one, 1); err != nil || zero.Get(one) != 1 {
		t.Errorf("P16.1: a zero table: %v", err)
	}
}

func TestAddErrors(t *testing.T) {
	var nobody *Table
	if err := nobody.Add(of([]int{999}), -1); fault.Code(err) != api.Nil {
		t.Errorf("P16.1: nil: %v", err)
	}
	u := table(t, Row{one, math.MaxInt64 - 1})
	for i, c := range []struct {
		p    api.Pat
		n    int64
		code int
	}{{of([]int{0, 256}), -1, api.Range}, {of(make([]int, 9)), 1, api.Large}, {of([]int{0, 0}, 1, 0), 1, api.Form}, {one, -1, api.Arg}, {edge, math.MinInt64, api.Arg}, {one, 2, api.Overflow}} {
		if err := u.Add(c.p, c.n); fault.Code(err) != c.code {
			t.Errorf("P16.1: %d: %v", i, err)
		}
	}
	if !same(u.Rows(), []Row{{one, math.MaxInt64 - 1}}) || u.Add(one, 1) != nil || u.Get(one) != math.MaxInt64 {
		t.Error("P16.1: nothing is done then")
	}
	if n, err := table(t, Row{one, math.MaxInt64}, Row{edge, 1}).Total(); n != 0 || fault.Code(err) != api.Overflow {
		t.Errorf("P16.1: a total that is too great: %v", err)
	}
}

func TestMerge(t *testing.T) {
	u, v := table(t, Row{one, 1}, Row{edge, 2}), table(t, Row{edge, 3}, Row{other, 0})
	if err := u.Merge(v); err != nil || !same(u.Rows(), []Row{{one, 1}, {other, 0}, {edge, 5}}) || !same(v.Rows(), []Row{{other, 0}, {edge, 3}}) {
		t.Errorf("P16.2: %v, %v", u.Rows(), err)
	}
	if err := u.Merge(u); err != nil || !same(u.Rows(), []Row{{one, 2}, {other, 0}, {edge, 10}}) {
		t.Errorf("P16.2: with itself: %v, %v", u.Rows(), err)
	}
	great := table(t, Row{one, 1}, Row{edge, math.MaxInt64 - 9})
	if err := u.Merge(great); fault.Code(err) != api.Overflow || !same(u.Rows(), []Row{{one, 2}, {other, 0}, {edge, 10}}) {
		t.Errorf("P16.2: nothing is done then: %v, %v", u.Rows(), err)
	}
	var nobody *Table
	for _, err := range []error{u.Merge(nil), nobody.Merge(u), nobody.Merge(nil)} {
		if fault.Code(err) != api.Nil {
			t.Errorf("P16.2: nil: %v", err)
		}
	}
}

func TestFold(t *testing.T) {
	u := table(t, Row{of([]int{0, 1}, 0, 1), 2}, Row{of([]int{1, 0}, 0, 1), 1})
	f, err := u.Fold()
	if err != nil || !same(f.Rows(), []Row{{of([]int{0, 1}, 0, 1), 3}}) || len(u.Rows()) != 2 {
		t.Errorf("P16.2: %v, %v", f.Rows(), err)
	}
	u = table(t, Row{of([]int{0, 1}, 0, 1), math.MaxInt64}, Row{of([]int{1, 0}, 0, 1), 1})
	if f, err := u.Fold(); f != nil || fault.Code(err) != api.Overflow {
		t.Errorf("P16.2: %v", err)
	}
	var nobody *Table
	if f, err := nobody.Fold(); f != nil || fault.Code(err) != api.Nil {
		t.Errorf("P16.2: nil: %v", err)
	}
	if f, err := New().Fold(); err != nil || f == nil || len(f.Rows()) != 0 {
		t.Errorf("P16.2: an empty table: %v", err)
	}
}

func TestKeep(t *testing.T) {
	u := table(t, Row{one, 1}, Row{edge, 5}, Row{other, 0})
	kept := u.Keep(func(r Row) bool {
		r.Pat.Labels[0] = 200
		return r.N != 1
	})
	if !same(kept.Rows(), []Row{{other, 0}, {edge, 5}}) || len(u.Rows()) != 3 {
		t.Errorf("P16.2: %v", kept.Rows())
	}
	if err := kept.Add(edge, 1); err != nil || u.Get(edge) != 5 {
		t.Error("P16.2: a new table")
	}
	var nobody *Table
	if nobody.Keep(func(Row) bool { return true }) != nil || nobody.Rows() != nil || nobody.Get(one) != 0 {
		t.Error("P16.2: nil")
	}
	if n, err := nobody.Total(); n != 0 || err != nil {
		t.Error("P16.1: the total of nil")
	}
}

func write(rows ...Row) []byte {
	var w wire.Writer
	w.Num(len(rows))
	for _, r := range rows {
		w.Text(string(pat.Bytes(r.Pat)))
		w.Long(r.N)
	}
	return w.Bytes()
}

func TestBytes(t *testing.T) {
	rows := []Row{{api.Pat{}, 1}, {one, math.MaxInt64}, {other, 0}, {edge, 4}}
	u := table(t, rows[3], rows[1], rows[0], rows[2])
	if !bytes.Equal(u.Bytes(), write(rows...)) {
		t.Errorf("P16.3: %v", u.Bytes())
	}
	if v, err := Read(u.Bytes()); err != nil || !same(v.Rows(), rows) {
		t.Errorf("P16.3: %v", err)
	}
	var nobody *Table
	if !bytes.Equal(nobody.Bytes(), New().Bytes()) || !bytes.Equal(New().Bytes(), []byte{0, 0, 0, 0}) {
		t.Error("P16.3: nil")
	}
	if v, err := Read(New().Bytes()); err != nil || len(v.Rows()) != 0 || v.Add(one, 1) != nil {
		t.Errorf("P16.3: an empty one: %v", err)
	}
}

func TestReadErrors(t *testing.T) {
	good := write(Row{one, 1}, Row{edge, 2})
	for n := range good {
		if u, err := Read(good[:n]); u != nil || fault.Code(err) != api.End {
			t.Errorf("P16.3: %d bytes: %v", n, err)
		}
	}
	text := func(s string) []byte {
		var w wire.Writer
		w.Num(1)
		w.Text(s)
		w.Long(-1)
		return w.Bytes()
	}
	for i, c := range []struct {
		b    []byte
		code int
	}{
		{append(slices.Clone(good), 0), api.Form},
		{[]byte{255, 255, 255, 255}, api.End}, {[]byte{255, 255, 255, 255, 0, 0, 0, 0, 0, 0, 0, 0}, api.End},
		{text("abc"), api.End}, {text(string(pat.Bytes(one)) + "x"), api.Form}, {text(string(pat.Bytes(of([]int{256})))), api.Range},
		{write(Row{edge, 1}, Row{one, -1}), api.Form}, {write(Row{one, 1}, Row{one, 1}), api.Form},
		{write(Row{edge, 1}, Row{one, 1}, Row{of([]int{256}), 1}), api.Range},
		{write(Row{one, 1}, Row{edge, -1}), api.Arg}, {write(Row{one, math.MinInt64}), api.Arg},
	} {
		if u, err := Read(c.b); u != nil || fault.Code(err) != c.code {
			t.Errorf("P16.3: %d: %v", i, err)
		}
	}
}

func TestTotalsStay(t *testing.T) {
	r := rand.New(rand.NewSource(16))
	for range 100 {
		a, b := New(), New()
		for range r.Intn(12) {
			if err := fault.First(a.Add(some(r, r.Intn(4), 2), int64(r.Intn(5))), b.Add(some(r, r.Intn(4), 2), int64(r.Intn(5)))); err != nil {
				t.Fatal(err)
			}
		}
		fa, _ := a.Fold()
		fb, _ := b.Fold()
		if err := fa.Merge(fb); err != nil {
			t.Fatal(err)
		}
		n, _ := a.Total()
		m, _ := b.Total()
		if err := a.Merge(b); err != nil {
			t.Fatal(err)
		}
		f, _ := a.Fold()
		k, _ := f.Total()
		if !same(f.Rows(), fa.Rows()) || k != n+m {
			t.Fatalf("P16.4: %d, not %d and %d", k, n, m)
		}
		for _, row := range f.Rows() {
			if !canon.Is(row.Pat) {
				t.Errorf("P16.2: %s is no form", pat.Text(row.Pat))
			}
		}
		if again, err := Read(a.Bytes()); err != nil || !same(again.Rows(), a.Rows()) {
			t.Errorf("P16.3: %v", err)
		}
	}
}
