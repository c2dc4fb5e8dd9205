package whole_test

import (
	"fmt"
	"slices"
	"testing"

	"lychgate/api"
	"lychgate/kern"
	"lychgate/sched"
	"lychgate/view"
)

// draw: numbers for long scripts; the same each time.
type draw uint64

func (d *draw) n(n int) int {
	*d = *d*6364136223846793005 + 1442695040888963407
	return int(uint64(*d) >> 33 % uint64(n))
}

// instr is of partition me, and right.
func (d *draw) instr(me, size int, channels []api.Chan) api.Instr {
	if k := d.n(len(channels) + 3); k < len(channels) && channels[k].From == me {
		return api.Instr{Op: api.Put, A: d.n(4), N: k}
	} else if k < len(channels) && channels[k].To == me {
		return api.Instr{Op: api.Get, A: d.n(4), B: d.n(4), N: k}
	}
	a, b := d.n(4), d.n(4)
	return []api.Instr{
		{Op: api.Set, A: a, N: d.n(12) - 2}, {Op: api.Copy, A: a, B: b}, {Op: api.Add, A: a, B: b}, {Op: api.Sub, A: a, B: b},
		{Op: api.Less, A: a, B: b}, {Op: api.Load, A: a, B: b}, {Op: api.Save, A: a, B: b}, {Op: api.Jump, N: d.n(size)},
		{Op: api.Zero, A: a, N: d.n(size)}, {Op: api.In, A: a}, {Op: api.Out, A: a}, {Op: api.In, A: a}, {Op: api.Out, A: a}, {Op: api.Rest},
	}[d.n(14)]
}

// part is one that may stand in a right system as partition me.
func (d *draw) part(me int, channels []api.Chan) api.Part {
	var p api.Part
	size := 3 + d.n(9)
	for range size {
		p.Code = append(p.Code, d.instr(me, size, channels))
	}
	last := []api.Instr{{Op: api.Jump}, {Op: api.Jump, N: size / 2}, {Op: api.Stop}}
	p.Code = append(p.Code, last[d.n(5)/2])
	for range d.n(5) {
		p.In = append(p.In, d.n(99)-9)
	}
	return p
}

func (d *draw) channels(parts int) []api.Chan {
	var l []api.Chan
	for range d.n(api.MaxChans) {
		a := d.n(parts)
		l = append(l, api.Chan{Kind: 1 + d.n(2), From: a, To: (a + 1 + d.n(parts-1)) % parts})
	}
	return l
}

func (d *draw) system() api.System {
	n := 2 + d.n(3)
	s := api.System{Chans: d.channels(n)}
	for me := range n {
		s.Parts = append(s.Parts, d.part(me, s.Chans))
	}
	for range 1 + d.n(api.MaxSlots) {
		s.Slots = append(s.Slots, api.Slot{Part: d.n(n), Ticks: 1 + d.n(api.MaxSpan)})
	}
	return s
}

// policy is a right one of so many partitions.
func (d *draw) policy(parts int) api.Policy {
	var p api.Policy
	chances := 2 + d.n(7)
	for from := range parts {
		for to := range parts {
			if from != to && d.n(8) < chances {
				p.May = append(p.May, api.Edge{From: from, To: to})
			}
		}
	}
	return p
}

// others is the system with others in the places of those that are told.
func (d *draw) others(t *testing.T, s api.System, told func(n int) bool) api.System {
	t.Helper()
	for n := range s.Parts {
		if told(n) {
			s = other(t, s, n, d.part(n, s.Chans))
		}
	}
	return s
}

func other(t *testing.T, s api.System, part int, p api.Part) api.System {
	t.Helper()
	x, e := view.Other(s, part, p)
	if e != api.OK {
		t.Fatalf("another %d of %v: %d", part, s, e)
	}
	return x
}

func begin(t *testing.T, s api.System) api.World {
	t.Helper()
	w, e := kern.Begin(s)
	if e != api.OK {
		t.Fatalf("%v: %d", s, e)
	}
	return w
}

func step(t *testing.T, s api.System, w api.World) api.World {
	t.Helper()
	x, e := kern.Step(s, w)
	if e != api.OK {
		t.Fatalf("%v of %v: %d", w, s, e)
	}
	return x
}

// far is the world so many steps later.
func far(t *testing.T, s api.System, w api.World, steps int) api.World {
	t.Helper()
	for range steps {
		w = step(t, s, w)
	}
	return w
}

func who(t *testing.T, s api.System, tick int) int {
	t.Helper()
	n, e := sched.Who(s, tick)
	if e != api.OK {
		t.Fatalf("%d of %v: %d", tick, s, e)
	}
	return n
}

// sees is what a partition sees, told as text, so that empty lists are the same.
func sees(t *testing.T, s api.System, w api.World, part int) string {
	t.Helper()
	v, e := view.Of(s, w, part)
	if e != api.OK {
		t.Fatalf("%d of %v: %d", part, w, e)
	}
	return fmt.Sprint(v)
}

// sameWorld holds two worlds against each other; an empty list may be nil or not.
func sameWorld(a, b api.World) bool {
	return a.Tick == b.Tick && slices.EqualFunc(a.Cells, b.Cells, sameCell) &&
		slices.EqualFunc(a.Lines, b.Lines, func(l, m api.Line) bool { return slices.Equal(l.Vals, m.Vals) })
}

func sameCell(c, d api.Cell) bool {
	return c.At == d.At && c.Regs == d.Regs && c.Mem == d.Mem && c.Read == d.Read && c.End == d.End && slices.Equal(c.Out, d.Out)
}
