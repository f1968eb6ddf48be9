// Package fault is layer 1: errors that say where they come from.
package fault

import (
	"errors"
	"strings"

	"fretwork/api"
)

// step is a word around another error.
type step struct {
	word   string
	inside error
}

// Error tells the whole chain below the step.
func (s *step) Error() string { return Text(s) }

// Unwrap tells what the step stands around.
func (s *step) Unwrap() error { return s.inside }

// New tells a fault.
func New(code, at int, name string) error {
	return &api.Fault{Code: code, At: at, Name: name}
}

// In tells a step of a word around an error.
func In(word string, e error) error {
	if e == nil {
		return nil
	}
	return &step{word: word, inside: e}
}

// Code tells the code of a chain's first fault: 0 of nothing, -1 without a fault.
func Code(e error) int {
	if e == nil {
		return 0
	}
	if f := find(e); f != nil {
		return f.Code
	}
	return -1
}

// At tells the place of a chain's first fault.
func At(e error) int {
	if f := find(e); f != nil {
		return f.At
	}
	return 0
}

// find tells the first fault of a chain; a nil one counts as none.
func find(e error) *api.Fault {
	var f *api.Fault
	if errors.As(e, &f) {
		return f
	}
	return nil
}

// Words tells the words of all steps, from outside to inside.
func Words(e error) []string {
	words, _ := unroll(e)
	return words
}

// Is tells whether a fault of a code is in a chain.
func Is(e error, code int) bool {
	return errors.Is(e, &api.Fault{Code: code})
}

// Text tells the words of a chain, and its innermost error.
func Text(e error) string {
	if e == nil {
		return ""
	}
	words, inner := unroll(e)
	var b strings.Builder
	for _, w := range words {
		b.WriteString(w)
		b.WriteString(": ")
	}
	b.WriteString(inner.Error())
	return b.String()
}

// unroll tells the words of all steps, and what is innermost.
func unroll(e error) ([]string, error) {
	var words []string
	for {
		var s *step
		if !errors.As(e, &s) || s == nil {
			break
		}
		words = append(words, s.word)
		e = s.inside
	}
	for next := e; next != nil; next = errors.Unwrap(next) {
		e = next
	}
	return words, e
}

// First tells the first error that isn't nothing.
func First(l ...error) error {
	for _, e := range l {
		if e != nil {
			return e
		}
	}
	return nil
}
