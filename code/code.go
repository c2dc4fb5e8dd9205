// Package code: programs: see doc/02-code.md.
package code

import (
	"strings"

	"lychgate/api"
	"lychgate/isa"
)

// Check tells whether a program is right, and if not, why.
func Check(l []api.Instr) api.Errno {
	if len(l) < 1 || len(l) > api.MaxCode {
		return api.ErrMany
	}
	for _, i := range l {
		if e := isa.Check(i); e != api.OK {
			return e
		}
	}
	return api.OK
}

// Puts is the channels that a program puts on.
func Puts(l []api.Instr) ([]int, api.Errno) { return channels(l, api.Put) }

// Gets is the channels that a program gets of.
func Gets(l []api.Instr) ([]int, api.Errno) { return channels(l, api.Get) }

// channels is those that instructions of that operation name, rising.
func channels(l []api.Instr, op int) ([]int, api.Errno) {
	if e := Check(l); e != api.OK {
		return nil, e
	}
	var named [api.MaxChans]bool
	for _, i := range l {
		if i.Op == op {
			named[i.N] = true
		}
	}
	var out []int
	for c, is := range named {
		if is {
			out = append(out, c)
		}
	}
	return out, api.OK
}

// Show writes a right program as text, a line for each instruction.
func Show(l []api.Instr) (string, api.Errno) {
	if e := Check(l); e != api.OK {
		return "", e
	}
	var text strings.Builder
	for _, i := range l {
		line, _ := isa.Show(i) // Check has told its errors
		text.WriteString(line)
		text.WriteByte('\n')
	}
	return text.String(), api.OK
}

// Read is the right program that Show writes as s.
func Read(s string) ([]api.Instr, api.Errno) {
	var l []api.Instr
	for s != "" {
		line, rest, ended := strings.Cut(s, "\n")
		// A program that is too long is left at once, so that no more of a long text is read.
		if !ended || len(l) == api.MaxCode {
			return nil, api.ErrForm
		}
		i, e := isa.Read(line)
		if e != api.OK {
			return nil, api.ErrForm
		}
		l = append(l, i)
		s = rest
	}
	if len(l) == 0 {
		return nil, api.ErrForm
	}
	return l, api.OK
}
