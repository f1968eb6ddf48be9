package fault

import (
	"errors"
	"slices"
	"testing"

	"fretwork/api"
)

// wrap stands around an error without being a step.
type wrap struct{ inside error }

func (w wrap) Error() string { return "wrap of " + w.inside.Error() }
func (w wrap) Unwrap() error { return w.inside }

func TestNew(t *testing.T) {
	e := New(2, 5, "x")
	var f *api.Fault
	if !errors.As(e, &f) || error(f) != e || f.Code != 2 || f.At != 5 || f.Name != "x" {
		t.Errorf("P1.1: New tells %v", e)
	}
}

func TestIn(t *testing.T) {
	e := New(2, 5, "x")
	if in := In("a", e); errors.Unwrap(in) != e {
		t.Error("P1.1: a step's inside")
	}
	if In("a", nil) != nil {
		t.Error("P1.1: a step around nothing")
	}
	other := errors.New("other")
	if errors.Unwrap(In("", other)) != other {
		t.Error("P1.1: a step around another error")
	}
}

func TestCodeAndAt(t *testing.T) {
	var none *api.Fault
	for i, c := range []struct {
		e        error
		code, at int
	}{
		{nil, 0, 0},
		{errors.New("x"), -1, 0},
		{In("a", errors.New("x")), -1, 0},
		{New(3, 9, "x"), 3, 9},
		{New(-7, -9, ""), -7, -9},
		{In("a", In("b", New(3, 9, "x"))), 3, 9},
		{wrap{New(4, 1, "x")}, 4, 1},
		{In("a", wrap{In("b", New(4, 1, "x"))}), 4, 1},
		{errors.Join(errors.New("x"), New(5, 6, ""), New(7, 8, "")), 5, 6},
		{none, -1, 0},
		{In("a", none), -1, 0},
	} {
		if Code(c.e) != c.code || At(c.e) != c.at {
			t.Errorf("P1.1: %d: %d at %d", i, Code(c.e), At(c.e))
		}
	}
}

func TestIs(t *testing.T) {
	e := In("a", errors.Join(New(3, 9, "x"), wrap{New(4, 0, "y")}))
	if !Is(e, 3) || !Is(e, 4) || Is(e, 5) || Is(nil, 0) || Is(errors.New("x"), 0) {
		t.Error("P1.1: Is")
	}
	var none *api.Fault
	if Is(none, 0) {
		t.Error("P1.1: Is of a nil fault")
	}
}

func TestWordsAndText(t *testing.T) {
	var none *api.Fault
	for i, c := range []struct {
		e     error
		words []string
		text  string
	}{
		{nil, nil, ""},
		{New(2, 5, "x"), nil, "x"},
		{In("a", New(2, 5, "x")), []string{"a"}, "a: x"},
		{In("a", In("b", In("", New(2, 5, "x")))), []string{"a", "b", ""}, "a: b: : x"},
		{In("a", errors.New("plain")), []string{"a"}, "a: plain"},
		{In("a", wrap{In("b", New(1, 1, "x"))}), []string{"a", "b"}, "a: b: x"},
		{wrap{In("b", wrap{New(1, 1, "x")})}, []string{"b"}, "b: x"},
		{In("a", none), []string{"a"}, "a: no fault"},
	} {
		if !slices.Equal(Words(c.e), c.words) || Text(c.e) != c.text {
			t.Errorf("P1.2: %d: %v %q", i, Words(c.e), Text(c.e))
		}
	}
}

// liar says that it is whatever it is asked for.
type liar struct{}

func (liar) Error() string { return "liar" }
func (liar) As(any) bool   { return true }

func TestLiar(t *testing.T) {
	e := In("a", liar{})
	if Code(e) != -1 || At(e) != 0 || !slices.Equal(Words(e), []string{"a"}) || Text(e) != "a: liar" {
		t.Errorf("P1.1, P1.2: %d, %v, %q", Code(e), Words(e), Text(e))
	}
}

func TestDeepChain(t *testing.T) {
	e := New(2, 5, "x")
	for range 1 << 14 {
		e = In("a", e)
	}
	if Code(e) != 2 || At(e) != 5 || len(Words(e)) != 1<<14 || len(e.Error()) != 3<<14+1 {
		t.Error("P1.3: a deep chain")
	}
}

func TestFirst(t *testing.T) {
	a, b := New(1, 0, "a"), New(2, 0, "b")
	if First() != nil || First(nil, nil) != nil || First(nil, a, b) != a || First(b, a) != b {
		t.Error("P1.2: First")
	}
}

func TestStepsChangeNothing(t *testing.T) {
	for _, e := range []error{nil, New(6, 7, "x"), errors.New("x"), wrap{New(6, 7, "y")}} {
		in := In("a", In("b", e))
		if Code(in) != Code(e) || At(in) != At(e) || Is(in, 6) != Is(e, 6) {
			t.Errorf("P1.3: %v", e)
		}
	}
}
