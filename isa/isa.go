// Package isa: instructions: see doc/01-isa.md.
package isa

import (
	"math"
	"strconv"
	"strings"

	"lychgate/api"
)

// shape is what all instructions of one operation have in common: their word,
// which fields there are, and the bounds of N.
type shape struct {
	word      string
	a, b, n   bool
	low, high int
}

// shapes has a row for each operation; row 0, which none has, stays empty.
var shapes = [api.Stop + 1]shape{
	api.Set:  {word: "set", a: true, n: true, low: math.MinInt, high: math.MaxInt},
	api.Copy: {word: "copy", a: true, b: true},
	api.Add:  {word: "add", a: true, b: true},
	api.Sub:  {word: "sub", a: true, b: true},
	api.Less: {word: "less", a: true, b: true},
	api.Load: {word: "load", a: true, b: true},
	api.Save: {word: "save", a: true, b: true},
	api.Jump: {word: "jump", n: true, high: api.MaxCode - 1},
	api.Zero: {word: "zero", a: true, n: true, high: api.MaxCode - 1},
	api.In:   {word: "in", a: true},
	api.Out:  {word: "out", a: true},
	api.Put:  {word: "put", a: true, n: true, high: api.MaxChans - 1},
	api.Get:  {word: "get", a: true, b: true, n: true, high: api.MaxChans - 1},
	api.Rest: {word: "rest"},
	api.Stop: {word: "stop"},
}

// Check tells whether an instruction is right, and if not, why.
func Check(i api.Instr) api.Errno {
	if i.Op < api.Set || i.Op > api.Stop {
		return api.ErrKind
	}
	s := shapes[i.Op]
	switch {
	case s.a && !isRegister(i.A), s.b && !isRegister(i.B), s.n && (i.N < s.low || i.N > s.high):
		return api.ErrRange
	case !s.a && i.A != 0, !s.b && i.B != 0, !s.n && i.N != 0:
		return api.ErrForm
	}
	return api.OK
}

func isRegister(n int) bool { return n >= 0 && n < api.Regs }

// Show writes a right instruction as text.
func Show(i api.Instr) (string, api.Errno) {
	if e := Check(i); e != api.OK {
		return "", e
	}
	s := shapes[i.Op]
	text := s.word
	if s.a {
		text += " " + strconv.Itoa(i.A)
	}
	if s.b {
		text += " " + strconv.Itoa(i.B)
	}
	if s.n {
		text += " " + strconv.Itoa(i.N)
	}
	return text, api.OK
}

// Read is the right instruction that Show writes as s.
func Read(s string) (api.Instr, api.Errno) {
	i := guess(s)
	if text, e := Show(i); e != api.OK || text != s {
		return api.Instr{}, api.ErrForm
	}
	return i, api.OK
}

// guess is the only instruction that could be shown as s. It need not be:
// holding s against what Show writes is left to Read, so that there is no
// second opinion on signs, zeros and blanks.
func guess(s string) api.Instr {
	word, rest, _ := strings.Cut(s, " ")
	i := api.Instr{Op: named(word)}
	h := shapes[i.Op]
	if h.a {
		i.A, rest = number(rest)
	}
	if h.b {
		i.B, rest = number(rest)
	}
	if h.n {
		i.N, _ = number(rest)
	}
	return i
}

// named is the operation of that word, 0 if there is none.
func named(word string) int {
	for op := api.Set; op <= api.Stop; op++ {
		if shapes[op].word == word {
			return op
		}
	}
	return 0
}

// number is what stands ahead of the first blank, and the text behind it.
func number(s string) (int, string) {
	digits, rest, _ := strings.Cut(s, " ")
	n, err := strconv.Atoi(digits)
	if err != nil {
		return 0, rest
	}
	return n, rest
}
