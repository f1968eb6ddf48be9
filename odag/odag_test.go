package odag

import (
	"bytes"
	"math"
	"math/rand"
	"slices"
	"testing"

	"fretwork/api"
	"fretwork/fault"
	"fretwork/sets"
	"fretwork/wire"
)

func must(t *testing.T, length int, lists ...[]int) *Odag {
	t.Helper()
	o, err := Of(length, lists)
	if err != nil {
		t.Fatal(err)
	}
	return o
}

// some tells random lists of a length.
func some(r *rand.Rand, length, most int) [][]int {
	lists := make([][]int, r.Intn(8))
	for i := range lists {
		lists[i] = make([]int, length)
		for j := range lists[i] {
			lists[i][j] = r.Intn(most)
		}
	}
	return lists
}

// pathsOf tells all paths by trying all lists of small numbers.
func pathsOf(o *Odag, most int) [][]int {
	paths := [][]int{nil}
	for i := range o.Len() {
		var longer [][]int
		for _, p := range paths {
			for a := range most {
				if slices.Contains(o.Row(i), a) && (i == 0 || slices.Contains(o.Links(i-1, p[i-1]), a)) {
					longer = append(longer, append(slices.Clone(p), a))
				}
			}
		}
		paths = longer
	}
	return paths
}

func TestOf(t *testing.T) {
	o := must(t, 3, []int{5, 1, 9}, []int{2, 1, 9}, []int{5, 0, 9}, []int{5, 1, 9})
	if o.Len() != 3 || !slices.Equal(o.Row(0), []int{2, 5}) || !slices.Equal(o.Row(1), []int{0, 1}) || !slices.Equal(o.Row(2), []int{9}) {
		t.Error("P13.1: rows")
	}
	if !slices.Equal(o.Links(0, 5), []int{0, 1}) || !slices.Equal(o.Links(0, 2), []int{1}) || !slices.Equal(o.Links(1, 0), []int{9}) || o.Cost() != 5+3+2 {
		t.Errorf("P13.1: links, cost %d", o.Cost())
	}
	for _, i := range []int{-1, 3, math.MinInt, math.MaxInt} {
		if o.Row(i) != nil || o.Links(i, 5) != nil {
			t.Errorf("P13.1: row %d", i)
		}
	}
	if o.Links(0, 3) != nil || o.Links(2, 9) != nil || o.Links(0, math.MinInt) != nil {
		t.Error("P13.1: links of what has none")
	}
	o.Row(0)[0], o.Links(0, 5)[0] = 77, 77
	if o.Row(0)[0] != 2 || o.Links(0, 5)[0] != 0 {
		t.Error("P13.1: what is told is the caller's")
	}
	if e := must(t, 8); e.Len() != 8 || e.Cost() != 0 || len(e.Row(7)) != 0 {
		t.Error("P13.1: of no lists")
	}
	if o := must(t, 1, []int{math.MaxInt32}, []int{0}); !slices.Equal(o.Row(0), []int{0, math.MaxInt32}) {
		t.Error("P13.1: the greatest number")
	}
}

func TestOfErrors(t *testing.T) {
	for i, c := range []struct {
		length   int
		lists    [][]int
		code, at int
	}{
		{0, [][]int{{1}}, api.Arg, 0}, {9, nil, api.Arg, 0}, {-1, nil, api.Arg, 0}, {math.MaxInt, nil, api.Arg, 0}, {math.MinInt, nil, api.Arg, 0},
		{2, [][]int{{1, 2}, {1}, {-1, 0}}, api.Form, 1}, {2, [][]int{{1, 2}, {1, 2, 3}}, api.Form, 1}, {1, [][]int{nil}, api.Form, 0},
		{2, [][]int{{1, 2}, {1, -1}, {}}, api.Range, 1}, {2, [][]int{{1 << 31, 2}}, api.Range, 0}, {1, [][]int{{math.MinInt}}, api.Range, 0},
		{2, [][]int{{-1}}, api.Form, 0},
	} {
		if o, err := Of(c.length, c.lists); o != nil || fault.Code(err) != c.code || fault.At(err) != c.at {
			t.Errorf("P13.1: %d: %v at %d", i, err, fault.At(err))
		}
	}
}

func TestPathsAndCount(t *testing.T) {
	for _, c := range []struct {
		lists [][]int
		want  [][]int
	}{
		{[][]int{{3, 2}, {1, 2}}, [][]int{{1, 2}, {3, 2}}},
		{[][]int{{1, 2}, {3, 2}, {3, 4}}, [][]int{{1, 2}, {3, 2}, {3, 4}}},
		{nil, nil},
	} {
		o := must(t, 2, c.lists...)
		n, err := o.Count()
		if got := slices.Collect(o.Paths()); !slices.EqualFunc(got, c.want, slices.Equal) || n != int64(len(c.want)) || err != nil {
			t.Errorf("P13.1: %v: %v", c.lists, got)
		}
	}
	r := rand.New(rand.NewSource(13))
	for range 300 {
		length := 1 + r.Intn(4)
		lists := some(r, length, 4)
		o := must(t, length, lists...)
		got, want := slices.Collect(o.Paths()), pathsOf(o, 4)
		n, err := o.Count()
		if !slices.EqualFunc(got, want, slices.Equal) || n != int64(len(want)) || err != nil || !slices.IsSortedFunc(got, sets.Compare) {
			t.Fatalf("P13.1: %v: %v", lists, got)
		}
		for _, l := range lists {
			if !slices.ContainsFunc(got, func(p []int) bool { return slices.Equal(p, l) }) {
				t.Fatalf("P13.4: %v is no path", l)
			}
		}
		if !must(t, length, got...).Same(o) {
			t.Fatalf("P13.4: of the paths of %v", lists)
		}
	}
}

func TestPathsMayBeLeft(t *testing.T) {
	o := must(t, 2, []int{1, 2}, []int{3, 2}, []int{3, 4})
	paths := o.Paths()
	for p := range paths {
		if !slices.Equal(p, []int{1, 2}) {
			t.Errorf("P13.1: %v", p)
		}
		break
	}
	for range 2 {
		n := 0
		for p := range paths {
			if n++; n == 2 {
				if !slices.Equal(p, []int{3, 2}) {
					t.Errorf("P13.1: %v", p)
				}
				break
			}
			clear(p)
		}
	}
}

// dense tells an odag with all links between rows of n numbers.
func dense(t *testing.T, length, n int) *Odag {
	var lists [][]int
	for a := range n {
		for b := range n {
			l := make([]int, length)
			for i := range l {
				l[i] = []int{a, b}[i%2]
			}
			lists = append(lists, l)
		}
	}
	return must(t, length, lists...)
}

func TestCountOverflow(t *testing.T) {
	if n, err := dense(t, 8, 200).Count(); err != nil || n != 2560000000000000000 {
		t.Errorf("P13.1: %d, %v", n, err)
	}
	o := dense(t, 8, 256)
	if n, err := o.Count(); n != 0 || fault.Code(err) != api.Overflow {
		t.Errorf("P13.1: %d, %v", n, err)
	}
	// The same behind a row that leads to none of it, and ahead of one that it doesn't lead to.
	var w wire.Writer
	w.Num(8)
	lists := [][]int{}
	for i := range 8 {
		lists = append(lists, o.Row(i))
	}
	for i, row := range lists {
		if i == 0 {
			row = []int{5}
		}
		w.List(row)
	}
	w.List(nil)
	for i := 1; i < 7; i++ {
		for _, a := range lists[i] {
			w.List(o.Links(i, a))
		}
	}
	cut, err := Read(w.Bytes())
	if err != nil {
		t.Fatal(err)
	}
	if n, err := cut.Count(); n != 0 || err != nil || slices.Collect(cut.Paths()) != nil {
		t.Errorf("P13.1: what isn't reached: %d, %v", n, err)
	}
	if !bytes.Equal(cut.Bytes(), w.Bytes()) {
		t.Error("P13.1: counting changes nothing")
	}
}

func TestDeadEnds(t *testing.T) {
	var w wire.Writer
	w.Num(3)
	w.List([]int{1, 2})
	w.List([]int{3, 4, 5})
	w.List([]int{6, 7})
	for _, links := range [][]int{{3, 5}, {4}, {}, {6, 7}, {6}} {
		w.List(links)
	}
	o, err := Read(w.Bytes())
	if err != nil {
		t.Fatal(err)
	}
	n, err := o.Count()
	if got := slices.Collect(o.Paths()); n != 3 || err != nil || !slices.EqualFunc(got, [][]int{{1, 5, 6}, {2, 4, 6}, {2, 4, 7}}, slices.Equal) {
		t.Errorf("P13.1: %d, %v: %v", n, err, got)
	}
	if again := must(t, 3, slices.Collect(o.Paths())...); again.Same(o) || o.Same(again) {
		t.Error("P13.2: a number in no path")
	}
}

func TestMerge(t *testing.T) {
	r := rand.New(rand.NewSource(131))
	for range 200 {
		length := 1 + r.Intn(4)
		a, b := some(r, length, 5), some(r, length, 5)
		o, p := must(t, length, a...), must(t, length, b...)
		before := o.Bytes()
		m, err := o.Merge(p)
		if err != nil || !m.Same(must(t, length, append(a, b...)...)) || !bytes.Equal(o.Bytes(), before) {
			t.Fatalf("P13.2, P13.4: %v and %v: %v", a, b, err)
		}
	}
	o := must(t, 2, []int{1, 2})
	if m, err := o.Merge(must(t, 3)); m != nil || fault.Code(err) != api.Arg {
		t.Errorf("P13.2: unlike lengths: %v", err)
	}
	var nobody *Odag
	for _, c := range [][2]*Odag{{o, nil}, {nil, o}, {nil, nil}} {
		if m, err := c[0].Merge(c[1]); m != nil || fault.Code(err) != api.Nil {
			t.Errorf("P13.2: nil: %v", err)
		}
	}
	if nobody.Len() != 0 || nobody.Row(0) != nil || nobody.Links(0, 0) != nil || nobody.Cost() != 0 || nobody.Bytes() != nil || slices.Collect(nobody.Paths()) != nil {
		t.Error("P13.1, P13.3: nil")
	}
	if n, err := nobody.Count(); n != 0 || err != nil {
		t.Error("P13.1: the count of nil")
	}
	if !nobody.Same(nil) || nobody.Same(o) || o.Same(nil) {
		t.Error("P13.2: Same of nil")
	}
	for range new(Odag).Paths() {
		t.Error("P13.1: paths of a zero odag")
	}
}

func TestSame(t *testing.T) {
	o := must(t, 2, []int{1, 2}, []int{3, 4})
	for i, p := range []*Odag{must(t, 2, []int{1, 2}), must(t, 2, []int{1, 2}, []int{3, 4}, []int{1, 4}), must(t, 3, []int{1, 2, 3}), must(t, 2)} {
		if o.Same(p) || p.Same(o) {
			t.Errorf("P13.2: %d is the same", i)
		}
	}
	if !o.Same(must(t, 2, []int{3, 4}, []int{1, 2})) || must(t, 2).Same(must(t, 3)) {
		t.Error("P13.2: Same")
	}
}

func TestBytes(t *testing.T) {
	var w wire.Writer
	w.Num(2)
	w.List([]int{1, 3})
	w.List([]int{2, 4})
	w.List([]int{2})
	w.List([]int{2, 4})
	if b := must(t, 2, []int{3, 4}, []int{1, 2}, []int{3, 2}).Bytes(); !bytes.Equal(b, w.Bytes()) {
		t.Errorf("P13.3: %v", b)
	}
	r := rand.New(rand.NewSource(132))
	for range 100 {
		length := 1 + r.Intn(8)
		o := must(t, length, some(r, length, 9)...)
		if p, err := Read(o.Bytes()); err != nil || !p.Same(o) {
			t.Fatalf("P13.3: %v", err)
		}
	}
}

// write tells bytes of a length and of lists.
func write(length int, lists ...[]int) []byte {
	var w wire.Writer
	w.Num(length)
	for _, l := range lists {
		w.List(l)
	}
	return w.Bytes()
}

func TestReadErrors(t *testing.T) {
	good := write(2, []int{1, 3}, []int{2}, []int{2}, nil)
	if o, err := Read(good); err != nil || o.Cost() != 4 {
		t.Errorf("P13.3: %v", err)
	}
	for n := range good {
		if o, err := Read(good[:n]); o != nil || fault.Code(err) != api.End {
			t.Errorf("P13.3: %d bytes: %v", n, err)
		}
	}
	whole := make([]int, 1<<16)
	for i := range whole {
		whole[i] = i
	}
	if o, err := Read(write(1, whole)); err != nil || len(o.Row(0)) != 1<<16 {
		t.Errorf("P13.3: as many as may be: %v", err)
	}
	if o, err := Read(write(1, []int{math.MaxInt32})); err != nil || o.Row(0)[0] != math.MaxInt32 {
		t.Errorf("P13.3: the greatest number: %v", err)
	}
	for i, c := range []struct {
		b    []byte
		code int
	}{
		{append(slices.Clone(good), 0), api.Form},
		{write(0), api.Arg}, {write(9), api.Arg}, {write(math.MaxUint32), api.Arg},
		{write(1, append(whole, 1<<16)), api.Large},
		{write(2, []int{1}, []int{2}, make([]int, 1<<16+1)), api.Large},
		{write(1, []int{2, 1}), api.Form}, {write(1, []int{2, 2}), api.Form},
		{write(2, []int{1}, []int{2, 3}, []int{3, 2}), api.Form}, {write(2, []int{1}, []int{2, 3}, []int{2, 2}), api.Form},
		{write(2, []int{1}, []int{2, 3}, []int{4}), api.Form}, {write(2, []int{1}, []int{1 << 31}, []int{4}), api.Form},
		{write(1, []int{1 << 31}), api.Range}, {write(2, []int{1}, []int{2, 1 << 31}, []int{1 << 31}), api.Range},
		{write(2, []int{2, 1}, []int{2}), api.End},
	} {
		if o, err := Read(c.b); o != nil || fault.Code(err) != c.code {
			t.Errorf("P13.3: %d: %v", i, err)
		}
	}
}
