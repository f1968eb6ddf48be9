package net

import (
	"math"
	"math/rand"
	"slices"
	"strconv"
	"testing"

	"fretwork/api"
	"fretwork/fault"
)

func must(t *testing.T, workers int) *Net {
	t.Helper()
	n, err := New(workers)
	if err != nil {
		t.Fatal(err)
	}
	return n
}

// all tells whether no error is among some.
func all(errs ...error) bool { return fault.First(errs...) == nil }

func TestNew(t *testing.T) {
	for _, w := range []int{0, -1, 65, math.MinInt, math.MaxInt} {
		if n, err := New(w); n != nil || fault.Code(err) != api.Arg {
			t.Errorf("P19.1: %d workers: %v", w, err)
		}
	}
	for _, w := range []int{1, 64} {
		n := must(t, w)
		if !n.Quiet() || n.Missing() != 0 || len(n.Flying()) != 0 || len(n.Inbox(w-1)) != 0 {
			t.Errorf("P19.1: a new net of %d", w)
		}
	}
}

func TestExample(t *testing.T) {
	n := must(t, 2)
	a, b := Letter{0, 1, 0, "a"}, Letter{0, 1, 1, "b"}
	if !all(n.Send(0, 1, "a"), n.Send(0, 1, "b"), n.Double(1)) || !slices.Equal(n.Flying(), []Letter{a, b, b}) || n.Missing() != 2 {
		t.Errorf("P19.1: in flight: %v", n.Flying())
	}
	if !all(n.Deliver(1), n.Deliver(0)) || !n.Quiet() || !slices.Equal(n.Flying(), []Letter{b}) {
		t.Errorf("P19.1: in flight: %v", n.Flying())
	}
	if !all(n.Deliver(0)) || !slices.Equal(n.Inbox(1), []Letter{a, b}) || len(n.Inbox(0)) != 0 || len(n.Flying()) != 0 {
		t.Errorf("P19.1: the inbox: %v", n.Inbox(1))
	}
}

func TestInbox(t *testing.T) {
	n := must(t, 3)
	if !all(n.Send(2, 0, "x"), n.Send(1, 0, "y"), n.Send(1, 1, "z"), n.Send(1, 0, "w"), n.Send(0, 0, ""), n.Deliver(0), n.Deliver(2)) {
		t.Fatal("P19.1: sending")
	}
	if got := n.Inbox(0); !slices.Equal(got, []Letter{{1, 0, 1, "w"}, {2, 0, 0, "x"}}) || n.Missing() != 3 || n.Quiet() {
		t.Errorf("P19.1: a gap: %v", got)
	}
	if !all(n.Deliver(2), n.Deliver(1), n.Deliver(0)) || !slices.Equal(n.Inbox(0), []Letter{{0, 0, 0, ""}, {1, 0, 0, "y"}, {1, 0, 1, "w"}, {2, 0, 0, "x"}}) ||
		!slices.Equal(n.Inbox(1), []Letter{{1, 1, 0, "z"}}) || !n.Quiet() {
		t.Errorf("P19.1: %v", n.Inbox(0))
	}
	for _, w := range []int{-1, 3, math.MinInt, math.MaxInt} {
		if n.Inbox(w) != nil {
			t.Errorf("P19.1: the inbox of %d", w)
		}
	}
}

func TestRange(t *testing.T) {
	n := must(t, 2)
	for _, w := range []int{-1, 2, math.MinInt, math.MaxInt} {
		if fault.Code(n.Send(w, 0, "")) != api.Range || fault.Code(n.Send(0, w, "")) != api.Range {
			t.Errorf("P19.1: worker %d", w)
		}
	}
	if !n.Quiet() || len(n.Flying()) != 0 || !all(n.Send(0, 0, "a")) {
		t.Error("P19.1: nothing was sent")
	}
	for _, i := range []int{-1, 1, math.MinInt, math.MaxInt} {
		if fault.Code(n.Double(i)) != api.Range || fault.Code(n.Deliver(i)) != api.Range {
			t.Errorf("P19.1: place %d", i)
		}
	}
	n.Flying()[0].Text = "b"
	if n.Flying()[0].Text != "a" {
		t.Error("P19.1: what is told is the caller's")
	}
}

func TestNil(t *testing.T) {
	var n *Net
	for i, err := range []error{n.Send(9, 9, ""), n.Double(9), n.Deliver(9)} {
		if fault.Code(err) != api.Nil {
			t.Errorf("P19.1: %d: %v", i, err)
		}
	}
	if n.Flying() != nil || n.Inbox(0) != nil || !n.Quiet() || n.Missing() != 0 || n.Next() != nil || n.Clone() != nil {
		t.Error("P19.2: nil")
	}
	zero := new(Net)
	if fault.Code(zero.Send(0, 0, "")) != api.Range || zero.Inbox(0) != nil || !zero.Quiet() || !zero.Clone().Quiet() {
		t.Error("P19.2: a zero net")
	}
}

func TestNextAndClone(t *testing.T) {
	n := must(t, 2)
	if !all(n.Send(0, 1, "a"), n.Send(0, 1, "b"), n.Deliver(0)) {
		t.Fatal("P19.1: sending")
	}
	next := n.Next()
	if !next.Quiet() || len(next.Flying()) != 0 || len(next.Inbox(1)) != 0 || !all(next.Send(0, 1, "c")) || next.Flying()[0].Seq != 0 || fault.Code(next.Send(0, 2, "")) != api.Range {
		t.Error("P19.2: Next")
	}
	more := n.Clone()
	if !all(more.Send(0, 1, "x"), more.Send(0, 1, "y")) {
		t.Fatal("P19.2: sending")
	}
	flying := more.Flying()
	if !all(more.Clone().Deliver(1)) || !slices.Equal(more.Flying(), flying) {
		t.Error("P19.2: what a clone delivers")
	}
	c := n.Clone()
	if c.Missing() != 1 || !slices.Equal(c.Flying(), n.Flying()) || !slices.Equal(c.Inbox(1), n.Inbox(1)) {
		t.Error("P19.2: a clone is the same")
	}
	if !all(c.Send(0, 1, "d"), c.Double(0), c.Deliver(0)) || !all(n.Send(0, 1, "e"), n.Send(1, 0, "f")) {
		t.Fatal("P19.2: sending")
	}
	if c.Missing() != 1 || n.Missing() != 3 || c.Flying()[0].Text != "d" || n.Flying()[1] != (Letter{0, 1, 2, "e"}) || len(c.Inbox(1)) != 2 || len(n.Inbox(1)) != 1 {
		t.Error("P19.2: each is for itself")
	}
}

func TestAnyOrder(t *testing.T) {
	r := rand.New(rand.NewSource(19))
	for range 100 {
		workers := 1 + r.Intn(4)
		n := must(t, workers)
		want := make([][]Letter, workers)
		sent := r.Intn(12)
		seqs := map[[2]int]int{}
		for i := range sent {
			l := Letter{From: r.Intn(workers), To: r.Intn(workers), Text: strconv.Itoa(i)}
			l.Seq = seqs[[2]int{l.From, l.To}]
			seqs[[2]int{l.From, l.To}]++
			want[l.To] = append(want[l.To], l)
			if !all(n.Send(l.From, l.To, l.Text)) {
				t.Fatal("P19.1: sending")
			}
			if r.Intn(2) == 0 && len(n.Flying()) > 0 {
				n.Deliver(r.Intn(len(n.Flying())))
			}
		}
		for !n.Quiet() {
			if r.Intn(3) == 0 {
				n.Double(r.Intn(len(n.Flying())))
			}
			n.Deliver(r.Intn(len(n.Flying())))
		}
		for w := range workers {
			slices.SortStableFunc(want[w], func(a, b Letter) int { return a.From - b.From })
			if !slices.Equal(n.Inbox(w), want[w]) {
				t.Fatalf("P19.3: %v, not %v", n.Inbox(w), want[w])
			}
		}
	}
}
