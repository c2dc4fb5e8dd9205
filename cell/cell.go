// Package cell: cells: see doc/03-cell.md.
package cell

import (
	"lychgate/api"
	"lychgate/code"
)

// Check tells whether a cell is right.
func Check(c api.Cell) api.Errno {
	switch {
	case c.At < 0 || c.At > api.MaxCode,
		c.Read < 0 || c.Read > api.MaxIn,
		c.End != api.Runs && c.End != api.Stopped && c.End != api.Faulted,
		len(c.Out) > api.MaxOut:
		return api.ErrForm
	}
	return api.OK
}

// Step is the cell behind its next instruction, and what it wants of a channel.
func Step(p api.Part, c api.Cell) (api.Cell, api.Want, api.Errno) {
	if e := checkStep(p, c); e != api.OK {
		return api.Cell{}, api.Want{}, e
	}
	r := runner{Cell: copied(c), in: p.In}
	if r.End == api.Runs {
		r.step(p.Code)
	}
	return r.Cell, r.want, api.OK
}

func checkStep(p api.Part, c api.Cell) api.Errno {
	if e := code.Check(p.Code); e != api.OK {
		return e
	}
	if len(p.In) > api.MaxIn {
		return api.ErrMany
	}
	if e := Check(c); e != api.OK {
		return e
	}
	if c.Read > len(p.In) {
		return api.ErrForm
	}
	return api.OK
}

// Reply is the cell once a channel of that kind has answered its want.
func Reply(c api.Cell, w api.Want, kind, val int, is bool) (api.Cell, api.Errno) {
	if e := checkReply(c, w, kind); e != api.OK {
		return api.Cell{}, e
	}
	d := copied(c)
	switch {
	case w.Kind == api.Put && kind == api.Queue:
		d.Regs[w.Reg] = bit(is)
	case w.Kind == api.Get:
		if is {
			d.Regs[w.Reg] = val
		}
		// Last, for it holds where Reg and Flag are the same register.
		d.Regs[w.Flag] = bit(is)
	}
	return d, api.OK
}

func checkReply(c api.Cell, w api.Want, kind int) api.Errno {
	switch {
	case Check(c) != api.OK:
		return api.ErrForm
	case w.Kind != api.Put && w.Kind != api.Get, kind != api.Sample && kind != api.Queue:
		return api.ErrKind
	case !isRegister(w.Reg), !isRegister(w.Flag):
		return api.ErrRange
	}
	return api.OK
}

func isRegister(n int) bool { return n >= 0 && n < api.Regs }

// copied shares no memory with c, so that Out may grow.
func copied(c api.Cell) api.Cell {
	c.Out = append([]int(nil), c.Out...)
	return c
}

func bit(is bool) int {
	if is {
		return 1
	}
	return 0
}
