package conf_test

import (
	"math"
	"reflect"
	"slices"
	"testing"

	"lychgate/api"
	"lychgate/code"
	"lychgate/conf"
)

var stop = []api.Instr{{Op: api.Stop}}

// relay: 0 puts what comes in to 1 by a queue, 1 to 2 by a sample; 3 is for itself.
func relay() api.System {
	return api.System{
		Parts: []api.Part{
			{Code: []api.Instr{{Op: api.In}, {Op: api.Put}, {Op: api.Jump}}, In: []int{6, 7, 8}},
			{Code: []api.Instr{{Op: api.Get, A: 0, B: 1}, {Op: api.Zero, A: 1}, {Op: api.Out}, {Op: api.Put, N: 1}, {Op: api.Jump}}},
			{Code: []api.Instr{{Op: api.Get, B: 1, N: 1}, {Op: api.Zero, A: 1}, {Op: api.Out}, {Op: api.Stop}}, In: []int{4}},
			{Code: []api.Instr{{Op: api.Out}, {Op: api.Set, A: 1, N: 1}, {Op: api.Add, B: 1}, {Op: api.Jump}}},
		},
		Chans: []api.Chan{{Kind: api.Queue, From: 0, To: 1}, {Kind: api.Sample, From: 1, To: 2}},
		Slots: []api.Slot{{Part: 0, Ticks: 3}, {Part: 1, Ticks: 4}, {Part: 3, Ticks: 1}, {Part: 2, Ticks: 4}},
	}
}

// widest has as many of everything as there may be.
func widest() api.System {
	var s api.System
	for range api.MaxParts {
		s.Parts = append(s.Parts, api.Part{Code: slices.Repeat(stop, api.MaxCode), In: make([]int, api.MaxIn)})
	}
	for range api.MaxChans {
		s.Chans = append(s.Chans, api.Chan{Kind: api.Queue, From: api.MaxParts - 1, To: 0})
	}
	for range api.MaxSlots {
		s.Slots = append(s.Slots, api.Slot{Part: api.MaxParts - 1, Ticks: api.MaxSpan})
	}
	s.Parts[0].Code[3] = api.Instr{Op: api.Get, N: api.MaxChans - 1}
	s.Parts[api.MaxParts-1].Code[3] = api.Instr{Op: api.Put, N: api.MaxChans - 1}
	return s
}

// least has as few of everything as there may be.
func least() api.System {
	return api.System{Parts: []api.Part{{Code: stop}}, Slots: []api.Slot{{Ticks: 1}}}
}

// turn is what is changed of a relay, and what is told of it.
type turn struct {
	name string
	do   func(s *api.System)
	e    api.Errno
}

// turned are relays that are right, and not.
var turned = []turn{
	{"as it is", func(s *api.System) {}, api.OK},
	{"widest", func(s *api.System) { *s = widest() }, api.OK},
	{"least", func(s *api.System) { *s = least() }, api.OK},
	{"a partition without a slot", func(s *api.System) { s.Slots = s.Slots[:1] }, api.OK},
	{"a slot twice", func(s *api.System) { s.Slots = append(s.Slots, s.Slots[0]) }, api.OK},
	{"a channel twice", func(s *api.System) { s.Chans = append(s.Chans, s.Chans[0]) }, api.OK},
	{"channels that lead round", func(s *api.System) { s.Chans = append(s.Chans, api.Chan{Kind: api.Sample, From: 1, To: 0}) }, api.OK},
	{"a channel that nobody names", func(s *api.System) { s.Chans = append(s.Chans, api.Chan{Kind: api.Queue, From: 3, To: 0}) }, api.OK},
	{"another kind", func(s *api.System) { s.Chans[0].Kind = api.Sample }, api.OK},

	{"nothing", func(s *api.System) { *s = api.System{} }, api.ErrMany},
	{"no partition", func(s *api.System) { s.Parts = nil }, api.ErrMany},
	{"an empty list of partitions", func(s *api.System) { s.Parts = []api.Part{} }, api.ErrMany},
	{"too many partitions", func(s *api.System) { s.Parts = append(s.Parts, s.Parts[3]) }, api.ErrMany},
	{"far too many partitions", func(s *api.System) { s.Parts = make([]api.Part, 1<<16) }, api.ErrMany},
	{"too many channels", func(s *api.System) { s.Chans = slices.Repeat(s.Chans[:1], api.MaxChans+1) }, api.ErrMany},
	{"no slot", func(s *api.System) { s.Slots = nil }, api.ErrMany},
	{"too many slots", func(s *api.System) { s.Slots = slices.Repeat(s.Slots[:1], api.MaxSlots+1) }, api.ErrMany},
	{"too much comes in for the first", func(s *api.System) { s.Parts[0].In = make([]int, api.MaxIn+1) }, api.ErrMany},
	{"too much comes in for the last", func(s *api.System) { s.Parts[3].In = make([]int, api.MaxIn+1) }, api.ErrMany},

	{"no code", func(s *api.System) { s.Parts[1].Code = nil }, api.ErrMany},
	{"too much code", func(s *api.System) { s.Parts[3].Code = slices.Repeat(stop, api.MaxCode+1) }, api.ErrMany},
	{"an instruction of no kind", func(s *api.System) { s.Parts[1].Code[2].Op = 16 }, api.ErrKind},
	{"an instruction out of range", func(s *api.System) { s.Parts[3].Code[0].A = 4 }, api.ErrRange},
	{"an instruction with a field too many", func(s *api.System) { s.Parts[0].Code[0].N = 1 }, api.ErrForm},

	{"kind 0", func(s *api.System) { s.Chans[0].Kind = 0 }, api.ErrKind},
	{"kind 3", func(s *api.System) { s.Chans[1].Kind = 3 }, api.ErrKind},
	{"a kind below 0", func(s *api.System) { s.Chans[1].Kind = -1 }, api.ErrKind},

	{"From below 0", func(s *api.System) { s.Chans[1].From = -1 }, api.ErrRange},
	{"From above", func(s *api.System) { s.Chans[1].From = 4 }, api.ErrRange},
	{"From far above", func(s *api.System) { s.Chans[1].From = math.MaxInt }, api.ErrRange},
	{"To below 0", func(s *api.System) { s.Chans[0].To = -1 }, api.ErrRange},
	{"To above", func(s *api.System) { s.Chans[0].To = 4 }, api.ErrRange},
	{"To far below", func(s *api.System) { s.Chans[0].To = math.MinInt }, api.ErrRange},
	{"to itself", func(s *api.System) { s.Chans = append(s.Chans, api.Chan{Kind: api.Queue, From: 3, To: 3}) }, api.ErrRange},
	{"a slot's Part below 0", func(s *api.System) { s.Slots[0].Part = -1 }, api.ErrRange},
	{"a slot's Part above", func(s *api.System) { s.Slots[3].Part = 4 }, api.ErrRange},
	{"no ticks", func(s *api.System) { s.Slots[0].Ticks = 0 }, api.ErrRange},
	{"ticks below 0", func(s *api.System) { s.Slots[1].Ticks = -1 }, api.ErrRange},
	{"too many ticks", func(s *api.System) { s.Slots[3].Ticks = api.MaxSpan + 1 }, api.ErrRange},
	{"far too many ticks", func(s *api.System) { s.Slots[3].Ticks = math.MaxInt }, api.ErrRange},
	{"a partition that is not, of fewer", func(s *api.System) { *s = least(); s.Slots[0].Part = 1 }, api.ErrRange},
	{"a channel to a partition that is not, of fewer", func(s *api.System) { *s = least(); s.Chans = []api.Chan{{Kind: api.Queue, To: 1}} }, api.ErrRange},

	{"Put by a channel that is not", func(s *api.System) { s.Parts[3].Code[0] = api.Instr{Op: api.Put, N: 2} }, api.ErrForm},
	{"Put where there are no channels", func(s *api.System) { *s = least(); s.Parts[0].Code = []api.Instr{{Op: api.Put}} }, api.ErrForm},
	{"Put by another's channel", func(s *api.System) { s.Parts[3].Code[0] = api.Instr{Op: api.Put, N: 1} }, api.ErrForm},
	{"Put by a channel that leads to it", func(s *api.System) { s.Parts[1].Code[3].N = 0 }, api.ErrForm},
	{"Put that is never done", func(s *api.System) { s.Parts[2].Code = append(s.Parts[2].Code, api.Instr{Op: api.Put}) }, api.ErrForm},
	{"Get by a channel that is not", func(s *api.System) { s.Parts[0].Code[0] = api.Instr{Op: api.Get, N: 2} }, api.ErrForm},
	{"Get by the last channel that could be", func(s *api.System) { s.Parts[0].Code[0] = api.Instr{Op: api.Get, N: api.MaxChans - 1} }, api.ErrForm},
	{"Get by another's channel", func(s *api.System) { s.Parts[3].Code[0] = api.Instr{Op: api.Get} }, api.ErrForm},
	{"Get by a channel from it", func(s *api.System) { s.Parts[0].Code[0] = api.Instr{Op: api.Get} }, api.ErrForm},
	{"a channel turned round", func(s *api.System) { s.Chans[0] = api.Chan{Kind: api.Queue, From: 1, To: 0} }, api.ErrForm},
	{"a channel that is gone", func(s *api.System) { s.Chans = s.Chans[:1] }, api.ErrForm},

	{"another number ahead of a code", func(s *api.System) { s.Parts[0].Code[0].Op = 16; s.Slots = nil }, api.ErrMany},
	{"what comes in ahead of a code", func(s *api.System) { s.Parts[0].Code[0].Op = 16; s.Parts[3].In = make([]int, 13) }, api.ErrMany},
	{"the first wrong code", func(s *api.System) { s.Parts[1].Code[2].B = 1; s.Parts[2].Code[2].Op = 0 }, api.ErrForm},
	{"the first wrong code, turned", func(s *api.System) { s.Parts[1].Code[2].Op = 0; s.Parts[2].Code = nil }, api.ErrKind},
	{"a code's form ahead of a channel's kind", func(s *api.System) { s.Parts[3].Code[0].B = 1; s.Chans[0].Kind = 0 }, api.ErrForm},
	{"a code's range ahead of a channel's kind", func(s *api.System) { s.Parts[3].Code[0].A = 9; s.Chans[0].Kind = 0 }, api.ErrRange},
	{"a kind ahead of a range", func(s *api.System) { s.Chans[0].From = 9; s.Chans[1].Kind = 0 }, api.ErrKind},
	{"a kind ahead of a slot's range", func(s *api.System) { s.Slots[0].Ticks = 0; s.Chans[1].Kind = 0 }, api.ErrKind},
	{"a channel's range ahead of a form", func(s *api.System) { s.Parts[0].Code[1].N = 1; s.Chans[1].To = 1 }, api.ErrRange},
	{"a slot's range ahead of a form", func(s *api.System) { s.Parts[0].Code[1].N = 1; s.Slots[3].Ticks = 9 }, api.ErrRange},
}

// E1; E2, P1: Calm tells it, with nothing else.
func TestCheck(t *testing.T) {
	for _, x := range turned {
		s := relay()
		x.do(&s)
		for range 2 {
			if e := conf.Check(s); e != x.e {
				t.Errorf("%s: Check tells %d, want %d", x.name, e, x.e)
			}
		}
		c, e := conf.Calm(s, 0)
		if e != x.e || e != api.OK && !reflect.DeepEqual(c, api.System{}) {
			t.Errorf("%s: Calm tells %v %d, want %d", x.name, c, e, x.e)
		}
		wanted := x.e
		if wanted == api.OK {
			wanted = api.ErrNone
		}
		if c, e := conf.Calm(s, -1); e != wanted || !reflect.DeepEqual(c, api.System{}) {
			t.Errorf("%s: Calm of none tells %v %d, want %d", x.name, c, e, wanted)
		}
	}
}

// same holds two systems against each other; an empty list may be nil or not.
func same(a, b api.System) bool {
	return slices.Equal(a.Chans, b.Chans) && slices.Equal(a.Slots, b.Slots) &&
		slices.EqualFunc(a.Parts, b.Parts, func(p, q api.Part) bool {
			return slices.Equal(p.Code, q.Code) && slices.Equal(p.In, q.In)
		})
}

// E2: one has the code Stop alone, and nothing comes in for it; all else stays.
func TestCalm(t *testing.T) {
	for _, make := range []func() api.System{relay, widest, least} {
		for n := range make().Parts {
			want := make()
			want.Parts[n] = api.Part{Code: stop}
			c, e := conf.Calm(make(), n)
			if !same(c, want) || e != api.OK || conf.Check(c) != api.OK {
				t.Errorf("%d: %v %d, want %v", n, c, e, want)
			}
			again, e := conf.Calm(c, n)
			if !same(again, want) || e != api.OK {
				t.Errorf("%d, again: %v %d, want %v", n, again, e, want)
			}
		}
	}
}

// E2: ErrNone.
func TestCalmNone(t *testing.T) {
	for _, n := range []int{-1, 4, 5, math.MinInt, math.MaxInt} {
		if c, e := conf.Calm(relay(), n); e != api.ErrNone || !reflect.DeepEqual(c, api.System{}) {
			t.Errorf("%d: %v %d", n, c, e)
		}
	}
	if _, e := conf.Calm(least(), 1); e != api.ErrNone {
		t.Errorf("1 of 1: %d", e)
	}
}

// roomy is a relay whose lists have spare room, marked, and share their memory.
func roomy() api.System {
	s := relay()
	program := append(slices.Clone(stop), api.Instr{Op: 77}, api.Instr{Op: 78})
	in := []int{1, 2, 3, 77, 78}
	s.Parts = append(s.Parts, api.Part{In: []int{77}})[:4]
	s.Parts[2] = api.Part{Code: program[:1], In: in[:3]}
	s.Parts[3] = api.Part{Code: program[:1], In: in[:3]}
	s.Chans = append(s.Chans, api.Chan{Kind: 77})[:2]
	s.Slots = append(s.Slots, api.Slot{Part: 77})[:4]
	return s
}

// whole is a copy with the spare room.
func whole(s api.System) api.System {
	d := api.System{
		Chans: slices.Clone(s.Chans[:cap(s.Chans)]),
		Slots: slices.Clone(s.Slots[:cap(s.Slots)]),
	}
	for _, p := range s.Parts[:cap(s.Parts)] {
		d.Parts = append(d.Parts, api.Part{Code: slices.Clone(p.Code[:cap(p.Code)]), In: slices.Clone(p.In[:cap(p.In)])})
	}
	return d
}

// spoil writes over all that a system has, its spare room too.
func spoil(s api.System) {
	for _, p := range s.Parts[:cap(s.Parts)] {
		code, in := p.Code[:cap(p.Code)], p.In[:cap(p.In)]
		for k := range code {
			code[k] = api.Instr{Op: 66}
		}
		for k := range in {
			in[k] = 66
		}
	}
	clear(s.Parts[:cap(s.Parts)])
	clear(s.Chans[:cap(s.Chans)])
	clear(s.Slots[:cap(s.Slots)])
}

// P2: what is handed in stays, its spare room too; an answer shares no memory with it, and none within itself.
func TestOwnMemory(t *testing.T) {
	s := roomy()
	before := whole(s)
	c, e := conf.Calm(s, 1)
	other, _ := conf.Calm(s, 1)
	if e != api.OK || conf.Check(s) != api.OK {
		t.Fatalf("%d", e)
	}
	if !same(whole(s), before) {
		t.Fatalf("changed: %v, was %v", whole(s), before)
	}
	spoil(s)
	if !same(c, other) || len(c.Parts) != 4 || c.Parts[2].In[2] != 3 || conf.Check(c) != api.OK {
		t.Fatalf("a later change is seen: %v", c)
	}
	s = roomy()
	c, _ = conf.Calm(s, 1)
	c.Parts[2].In[0], c.Parts[2].Code[0].Op, c.Parts[1].Code[0].Op = 55, 55, 55
	if c.Parts[3].In[0] != 1 || c.Parts[3].Code[0].Op != api.Stop {
		t.Fatalf("two lists of an answer share memory: %v", c)
	}
	spoil(c)
	if !same(whole(s), before) {
		t.Fatalf("an answer shares memory with what was handed in: %v", whole(s))
	}
	if c, _ := conf.Calm(s, 1); !same(c, other) {
		t.Fatalf("a change of an answer is seen by a later call: %v", c)
	}
}

// draw: numbers for long scripts; the same each time.
type draw uint64

func (d *draw) n(n int) int {
	*d = *d*6364136223846793005 + 1442695040888963407
	return int(uint64(*d) >> 33 % uint64(n))
}

// plain tells E1 in the plainest words, error by error.
func plain(s api.System) api.Errno {
	many := len(s.Parts) < 1 || len(s.Parts) > 4 || len(s.Chans) > 6 || len(s.Slots) < 1 || len(s.Slots) > 6
	kind, out, form := false, false, false
	first := api.OK
	none := func(p int) bool { return p < 0 || p >= len(s.Parts) }
	for me, p := range s.Parts {
		many = many || len(p.In) > 12
		if first == api.OK {
			first = code.Check(p.Code)
		}
		for _, i := range p.Code {
			if i.Op == api.Put {
				form = form || i.N >= len(s.Chans) || i.N >= 0 && s.Chans[i.N].From != me
			}
			if i.Op == api.Get {
				form = form || i.N >= len(s.Chans) || i.N >= 0 && s.Chans[i.N].To != me
			}
		}
	}
	for _, c := range s.Chans {
		kind = kind || c.Kind != 1 && c.Kind != 2
		out = out || none(c.From) || none(c.To) || c.From == c.To
	}
	for _, x := range s.Slots {
		out = out || none(x.Part) || x.Ticks < 1 || x.Ticks > 8
	}
	switch {
	case many:
		return api.ErrMany
	case first != api.OK:
		return first
	case kind:
		return api.ErrKind
	case out:
		return api.ErrRange
	case form:
		return api.ErrForm
	}
	return api.OK
}

// odd is n, seldom something else.
func (d *draw) odd(n int) int {
	if d.n(60) == 0 {
		return []int{-1, 0, 4, 7, 9, 13, math.MinInt, math.MaxInt}[d.n(8)]
	}
	return n
}

// system is one that may be right.
func (d *draw) system() api.System {
	var s api.System
	n := 2 + d.n(3)
	for range d.n(6) {
		a := d.n(n)
		s.Chans = append(s.Chans, api.Chan{Kind: d.odd(1 + d.n(2)), From: d.odd(a), To: d.odd((a + 1 + d.n(n-1)) % n)})
	}
	for me := range n {
		p := api.Part{In: make([]int, d.n(4))}
		for range 1 + d.n(3) {
			i := api.Instr{Op: api.Out, A: d.odd(d.n(4))}
			for k, c := range s.Chans {
				if c.From == me && d.n(2) == 0 {
					i = api.Instr{Op: d.odd(api.Put), N: d.odd(k)}
				} else if c.To == me && d.n(2) == 0 {
					i = api.Instr{Op: api.Get, B: d.odd(d.n(4)), N: d.odd(k)}
				}
			}
			p.Code = append(p.Code, i)
		}
		s.Parts = append(s.Parts, p)
	}
	for range 1 + d.n(6) {
		s.Slots = append(s.Slots, api.Slot{Part: d.odd(d.n(n)), Ticks: d.odd(1 + d.n(8))})
	}
	return s
}

// E1, P1, P3: of many systems Check tells what the plainest words tell.
func TestPlain(t *testing.T) {
	d := draw(11)
	var seen [api.ErrNone + 1]int
	for range 20000 {
		s := d.system()
		e := conf.Check(s)
		if e != plain(s) || e != conf.Check(s) {
			t.Fatalf("%v: %d, want %d", s, e, plain(s))
		}
		seen[e]++
	}
	for _, e := range []api.Errno{api.OK, api.ErrForm, api.ErrRange, api.ErrKind} {
		if seen[e] < 100 {
			t.Errorf("%d was told only %d times", e, seen[e])
		}
	}
}
