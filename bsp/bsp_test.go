package bsp

import (
	"errors"
	"math"
	"math/rand"
	"slices"
	"strconv"
	"strings"
	"testing"

	"fretwork/api"
	"fretwork/fault"
)

// job is a job by a function.
type job func(worker, round int, state string, inbox []string) (string, []Mail, error)

func (j job) Work(worker, round int, state string, inbox []string) (string, []Mail, error) {
	return j(worker, round, state, inbox)
}

func must(t *testing.T, j Job, states ...string) *Machine {
	t.Helper()
	m, err := New(j, states)
	if err != nil {
		t.Fatal(err)
	}
	return m
}

// all tells whether no error is among some.
func all(errs ...error) bool { return fault.First(errs...) == nil }

// swap sends each state to the other one of two, and takes what comes as the state.
var swap = job(func(worker, round int, state string, inbox []string) (string, []Mail, error) {
	if round > 0 {
		state = strings.Join(inbox, "+")
	}
	return state, []Mail{{1 - worker, state}}, nil
})

func TestNew(t *testing.T) {
	if m, err := New(nil, nil); m != nil || fault.Code(err) != api.Nil {
		t.Errorf("P20.1: no job: %v", err)
	}
	for _, n := range []int{0, 65} {
		if m, err := New(swap, make([]string, n)); m != nil || fault.Code(err) != api.Arg {
			t.Errorf("P20.1: %d states: %v", n, err)
		}
	}
	states := []string{"a", "b"}
	m := must(t, swap, states...)
	states[0] = "c"
	if m.Round() != 0 || !slices.Equal(m.States(), []string{"a", "b"}) || m.Worked(0) || m.Worked(1) || m.Flying() != 0 {
		t.Error("P20.1: a new machine")
	}
	m.States()[0] = "d"
	if m.States()[0] != "a" {
		t.Error("P20.2: what is told is the caller's")
	}
	must(t, swap, make([]string, 64)...)
}

func TestRound(t *testing.T) {
	var inboxes [][]string
	m := must(t, job(func(worker, round int, state string, inbox []string) (string, []Mail, error) {
		inboxes = append(inboxes, slices.Clone(inbox))
		for i := range inbox {
			inbox[i] = "x"
		}
		return state + strconv.Itoa(round), []Mail{{1, state + "1"}, {0, state}, {1, state + "2"}}, nil
	}), "a", "b")
	if err := m.Pass(); fault.Code(err) != api.None {
		t.Errorf("P20.1: nobody has worked: %v", err)
	}
	if !all(m.Work(1)) || !m.Worked(1) || m.Worked(0) || m.Flying() != 3 || fault.Code(m.Work(1)) != api.There || m.Flying() != 3 {
		t.Error("P20.1: a worker works once")
	}
	if !slices.Equal(m.States(), []string{"a", "b"}) || fault.Code(m.Pass()) != api.None {
		t.Error("P20.2: states of the last barrier")
	}
	if !all(m.Work(0), m.Deliver(4), m.Double(0)) || m.Flying() != 6 {
		t.Error("P20.1: letters")
	}
	if err := m.Pass(); fault.Code(err) != api.Cap || fault.At(err) != 5 {
		t.Errorf("P20.1: %v at %d", err, fault.At(err))
	}
	for range 5 {
		if !all(m.Deliver(0)) {
			t.Error("P20.1: Deliver")
		}
	}
	if !all(m.Pass()) || m.Round() != 1 || m.Flying() != 0 || m.Worked(0) || !slices.Equal(m.States(), []string{"a0", "b0"}) {
		t.Errorf("P20.1: behind the barrier: %v", m.States())
	}
	inboxes = nil
	if !all(m.Work(0), m.Work(1), m.Crash(1)) || m.Round() != 1 || m.Flying() != 0 || m.Worked(0) || m.Worked(1) || !slices.Equal(m.States(), []string{"a0", "b0"}) {
		t.Error("P20.1: a crash")
	}
	if !all(m.Work(0), m.Work(1)) || !slices.EqualFunc(inboxes, [][]string{{"a", "b"}, {"a1", "a2", "b1", "b2"}, {"a", "b"}, {"a1", "a2", "b1", "b2"}}, slices.Equal) {
		t.Errorf("P20.1: inboxes are kept: %v", inboxes)
	}
}

func TestWorkErrors(t *testing.T) {
	bad := errors.New("bad")
	fail := true
	m := must(t, job(func(worker, round int, state string, inbox []string) (string, []Mail, error) {
		if fail && worker == 1 {
			return "zzz", []Mail{{0, "x"}}, bad
		}
		if fail {
			return "zzz", []Mail{{0, "x"}, {2, "y"}}, nil
		}
		return "done", nil, nil
	}), "a", "b")
	if err := m.Work(1); !errors.Is(err, bad) || !slices.Equal(fault.Words(err), []string{"work"}) {
		t.Errorf("P20.1: the job's error: %v", err)
	}
	if err := m.Work(0); fault.Code(err) != api.Range {
		t.Errorf("P20.1: mail to no worker: %v", err)
	}
	if m.Worked(0) || m.Worked(1) || m.Flying() != 0 {
		t.Error("P20.1: it has not worked then, and sent nothing")
	}
	if err := m.Finish(); fault.Code(err) != api.Range || m.Round() != 0 {
		t.Errorf("P20.2: Finish tells the first error: %v", err)
	}
	fail = false
	if !all(m.Finish()) || !slices.Equal(m.States(), []string{"done", "done"}) {
		t.Error("P20.2: Finish")
	}
}

func TestRange(t *testing.T) {
	m := must(t, swap, "a", "b")
	for _, w := range []int{-1, 2, math.MinInt, math.MaxInt} {
		if fault.Code(m.Work(w)) != api.Range || fault.Code(m.Crash(w)) != api.Range || fault.Code(m.Deliver(w)) != api.Range || fault.Code(m.Double(w)) != api.Range || m.Worked(w) {
			t.Errorf("P20.1: %d", w)
		}
	}
	for _, to := range []int{-1, math.MaxInt, math.MinInt} {
		n := must(t, job(func(int, int, string, []string) (string, []Mail, error) { return "", []Mail{{to, ""}}, nil }), "a")
		if err := n.Work(0); fault.Code(err) != api.Range {
			t.Errorf("P20.1: mail to %d: %v", to, err)
		}
	}
}

func TestNil(t *testing.T) {
	var m *Machine
	for i, err := range []error{m.Work(9), m.Deliver(9), m.Double(9), m.Crash(9), m.Pass(), m.Finish()} {
		if fault.Code(err) != api.Nil {
			t.Errorf("P20.1: %d: %v", i, err)
		}
	}
	if m.Round() != 0 || m.States() != nil || m.Worked(0) || m.Flying() != 0 {
		t.Error("P20.2: nil")
	}
	zero := new(Machine)
	if fault.Code(zero.Work(0)) != api.Range || fault.Code(zero.Crash(0)) != api.Range || fault.Code(zero.Deliver(0)) == 0 || fault.Code(zero.Double(0)) == 0 || zero.Worked(0) {
		t.Error("P20.1: a zero machine")
	}
}

func TestFinish(t *testing.T) {
	m := must(t, swap, "a", "b")
	if !all(m.Finish(), m.Work(1), m.Deliver(0), m.Double(0)) && m.Flying() != 0 {
		t.Error("P20.2: Finish")
	}
	if !all(m.Finish()) || m.Round() != 2 || !slices.Equal(m.States(), []string{"b", "a"}) {
		t.Errorf("P20.3: each has the other's: %v", m.States())
	}
}

// mixed sends something that hangs on all that a worker was given.
var mixed = job(func(worker, round int, state string, inbox []string) (string, []Mail, error) {
	state = strconv.Itoa(len(state)) + state[:min(len(state), 3)] + strings.Join(inbox, ",")
	var mails []Mail
	for to := range 3 {
		for i := range (worker + round + to) % 3 {
			mails = append(mails, Mail{to, strconv.Itoa(worker) + strconv.Itoa(i) + state[:min(len(state), 5)]})
		}
	}
	return state, mails, nil
})

func TestWhateverHappens(t *testing.T) {
	const rounds = 4
	plain := must(t, mixed, "a", "b", "c")
	var want [][]string
	for range rounds {
		if !all(plain.Finish()) {
			t.Fatal("P20.2: Finish")
		}
		want = append(want, plain.States())
	}
	r := rand.New(rand.NewSource(20))
	for range 60 {
		m := must(t, mixed, "a", "b", "c")
		for steps := 0; m.Round() < rounds; steps++ {
			before := m.Round()
			switch r.Intn(12) {
			case 0, 1, 2:
				m.Work(r.Intn(3))
			case 3:
				m.Double(r.Intn(9))
			case 4:
				if steps < 200 {
					m.Crash(r.Intn(3))
				}
			case 5:
				m.Pass()
			case 6:
				if r.Intn(10) == 0 {
					m.Finish()
				}
			default:
				m.Deliver(r.Intn(9))
			}
			if m.Round() > before && !slices.Equal(m.States(), want[before]) {
				t.Fatalf("P20.3: round %d: %v, not %v", before, m.States(), want[before])
			}
		}
	}
}
