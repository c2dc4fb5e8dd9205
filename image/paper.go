package image

import (
	"strings"

	"lychgate/api"
)

// paper is what a system is written on. The system must be right: then all
// that is written as one byte has room in it.
type paper struct{ strings.Builder }

func (p *paper) system(s api.System) {
	write(p, s.Parts, p.part)
	write(p, s.Chans, p.channel)
	write(p, s.Slots, p.slot)
}

func (p *paper) part(x api.Part) {
	write(p, x.Code, p.instr)
	write(p, x.In, p.number)
}

func (p *paper) instr(i api.Instr) {
	p.small(i.Op)
	p.small(i.A)
	p.small(i.B)
	p.number(i.N)
}

func (p *paper) channel(c api.Chan) {
	p.small(c.Kind)
	p.small(c.From)
	p.small(c.To)
}

func (p *paper) slot(t api.Slot) {
	p.small(t.Part)
	p.small(t.Ticks)
}

// write writes how many there are, and each one.
func write[T any](p *paper, l []T, one func(T)) {
	p.small(len(l))
	for _, x := range l {
		one(x)
	}
}

func (p *paper) small(n int) { p.WriteByte(byte(n)) }

// number is written as long, whatever it is, the highest byte first.
func (p *paper) number(n int) {
	for shift := 8 * (numberSize - 1); shift >= 0; shift -= 8 {
		p.WriteByte(byte(n >> shift))
	}
}
