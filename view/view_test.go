package view_test

import (
	"math"
	"reflect"
	"slices"
	"testing"

	"lychgate/api"
	"lychgate/conf"
	"lychgate/kern"
	"lychgate/view"
)

// relay: 0 puts what comes in to 1 by a queue, 1 to 2 by a sample; 3 is for itself.
func relay() api.System {
	return api.System{
		Parts: []api.Part{
			{Code: []api.Instr{{Op: api.In}, {Op: api.Put}, {Op: api.Jump}}, In: []int{6, 7, 8, 9, 10}},
			{Code: []api.Instr{{Op: api.Get, A: 0, B: 1}, {Op: api.Zero, A: 1}, {Op: api.Out}, {Op: api.Put, N: 1}, {Op: api.Jump}}},
			{Code: []api.Instr{{Op: api.Get, B: 1, N: 1}, {Op: api.Zero, A: 1}, {Op: api.Out}, {Op: api.Stop}}, In: []int{4}},
			{Code: []api.Instr{{Op: api.Out}, {Op: api.Set, A: 1, N: 1}, {Op: api.Add, B: 1}, {Op: api.Jump}}, In: []int{3, 2}},
		},
		Chans: []api.Chan{{Kind: api.Queue, From: 0, To: 1}, {Kind: api.Sample, From: 1, To: 2}},
		Slots: []api.Slot{{Part: 0, Ticks: 3}, {Part: 1, Ticks: 4}, {Part: 3, Ticks: 1}, {Part: 2, Ticks: 4}},
	}
}

// of is a system of so many partitions with those channels, which nobody names.
func of(parts int, channels ...api.Chan) api.System {
	s := api.System{Chans: channels, Slots: []api.Slot{{Ticks: 1}}}
	for n := range parts {
		s.Parts = append(s.Parts, api.Part{Code: []api.Instr{{Op: api.In}, {Op: api.Out}}, In: []int{n}})
	}
	return s
}

func sample(from, to int) api.Chan { return api.Chan{Kind: api.Sample, From: from, To: to} }

func queue(from, to int) api.Chan { return api.Chan{Kind: api.Queue, From: from, To: to} }

// stop is a partition that is calm.
func stop() api.Part { return api.Part{Code: []api.Instr{{Op: api.Stop}}} }

// sameView holds two views against each other; an empty list may be nil or not.
func sameView(a, b api.View) bool {
	c, d := a.Cell, b.Cell
	return c.At == d.At && c.Regs == d.Regs && c.Mem == d.Mem && c.Read == d.Read && c.End == d.End && slices.Equal(c.Out, d.Out) &&
		slices.EqualFunc(a.Lines, b.Lines, func(l, m api.Line) bool { return slices.Equal(l.Vals, m.Vals) })
}

func samePart(p, q api.Part) bool { return slices.Equal(p.Code, q.Code) && slices.Equal(p.In, q.In) }

func same(a, b api.System) bool {
	return slices.EqualFunc(a.Parts, b.Parts, samePart) && slices.Equal(a.Chans, b.Chans) && slices.Equal(a.Slots, b.Slots)
}

func noView(v api.View) bool { return sameView(v, api.View{}) }

func noSystem(s api.System) bool { return same(s, api.System{}) }

// nones are no partitions of a system.
func nones(s api.System) []int {
	return []int{-1, len(s.Parts), len(s.Parts) + 1, math.MinInt, math.MaxInt, 1 << 32}
}

// full is a world of a system of four partitions whose cells and lines are all different.
func full(s api.System) api.World {
	w := api.World{Tick: 11}
	for n := range s.Parts {
		c := api.Cell{At: 1 + n, Read: n % 2, End: n % 3, Out: slices.Repeat([]int{40 + n}, n)}
		c.Regs[n], c.Mem[7-n] = math.MinInt, math.MaxInt
		w.Cells = append(w.Cells, c)
	}
	for n, c := range s.Chans {
		vals := []int{10 * n, 10*n + 1, 10*n + 2}
		if c.Kind == api.Sample {
			vals = vals[:1]
		}
		w.Lines = append(w.Lines, api.Line{Vals: vals})
	}
	return w
}

// J1: its cell, and the lines of its channels in their order; the document's tenth example among them.
func TestOf(t *testing.T) {
	many := of(4, queue(2, 1), sample(0, 2), sample(3, 0), queue(0, 3), sample(2, 0), queue(0, 2))
	for _, x := range []struct {
		name  string
		s     api.System
		lines [][]int
	}{
		{"a relay", relay(), [][]int{{0}, {0, 1}, {1}, {}}},
		{"many channels", many, [][]int{{1, 2, 3, 4, 5}, {0}, {0, 1, 4, 5}, {2, 3}}},
		{"no channels", of(4), [][]int{{}, {}, {}, {}}},
		{"two of the same two", of(4, queue(1, 0), queue(1, 0), sample(1, 0)), [][]int{{0, 1, 2}, {0, 1, 2}, {}, {}}},
	} {
		w := full(x.s)
		w.Cells[0].Read, w.Cells[1].Read = 1, 0
		for part, lines := range x.lines {
			want := api.View{Cell: w.Cells[part]}
			for _, n := range lines {
				want.Lines = append(want.Lines, w.Lines[n])
			}
			for range 2 {
				if v, e := view.Of(x.s, w, part); !sameView(v, want) || e != api.OK {
					t.Errorf("%s, %d: %v %d, want %v", x.name, part, v, e, want)
				}
			}
		}
	}
}

// J1: lines that are empty are seen too.
func TestEmptyLines(t *testing.T) {
	w, _ := kern.Begin(relay())
	for part, lines := range []int{1, 2, 1, 0} {
		want := api.View{Lines: make([]api.Line, lines)}
		if v, e := view.Of(relay(), w, part); !sameView(v, want) || e != api.OK {
			t.Errorf("%d: %v %d, want %v", part, v, e, want)
		}
	}
	w, _ = kern.Run(relay(), 12)
	want := api.View{Cell: api.Cell{At: 4, Regs: [4]int{6, 1}, Out: []int{6}}, Lines: []api.Line{{}, {Vals: []int{6}}}}
	if v, e := view.Of(relay(), w, 1); !sameView(v, want) || e != api.OK {
		t.Errorf("after 12 ticks: %v %d, want %v", v, e, want)
	}
}

// wrongs are systems that are not right, with conf.Check's error.
func wrongs() map[api.Errno]api.System {
	many, kind, out, form := relay(), relay(), relay(), relay()
	many.Slots = nil
	kind.Chans[1].Kind = 3
	out.Slots[0].Ticks = 9
	form.Parts[3].Code[0] = api.Instr{Op: api.Put}
	return map[api.Errno]api.System{api.ErrMany: many, api.ErrKind: kind, api.ErrRange: out, api.ErrForm: form}
}

// J1, J2, P1: conf.Check's errors come first of all calls, with nothing else.
func TestSystemErrors(t *testing.T) {
	right, _ := kern.Begin(relay())
	for e, s := range wrongs() {
		if f := conf.Check(s); f != e {
			t.Fatalf("conf.Check tells %d, want %d", f, e)
		}
		for _, part := range []int{0, 3, -1, 4, math.MaxInt} {
			for _, w := range []api.World{right, {}, {Tick: -1}} {
				if v, f := view.Of(s, w, part); f != e || !noView(v) {
					t.Errorf("Of %d: %v %d, want %d", part, v, f, e)
				}
			}
			if d, f := view.Purge(s, part); f != e || !noSystem(d) {
				t.Errorf("Purge %d: %v %d, want %d", part, d, f, e)
			}
			for _, p := range []api.Part{stop(), {}, relay().Parts[3]} {
				if d, f := view.Other(s, part, p); f != e || !noSystem(d) {
					t.Errorf("Other %d: %v %d, want %d", part, d, f, e)
				}
			}
		}
	}
	if d, f := view.Other(api.System{}, 0, stop()); f != api.ErrMany || !noSystem(d) {
		t.Errorf("Other of nothing: %v %d", d, f)
	}
}

// J1, P1: worlds that are not right are told ahead of a partition that is not there, with nothing else.
func TestWorldErrors(t *testing.T) {
	for name, turn := range map[string]func(w *api.World){
		"nothing":                    func(w *api.World) { *w = api.World{} },
		"tick below 0":               func(w *api.World) { w.Tick = -1 },
		"tick above":                 func(w *api.World) { w.Tick = api.MaxRun + 1 },
		"a cell too few":             func(w *api.World) { w.Cells = w.Cells[:3] },
		"a cell too many":            func(w *api.World) { w.Cells = append(w.Cells, api.Cell{}) },
		"a line too few":             func(w *api.World) { w.Lines = w.Lines[:1] },
		"a line too many":            func(w *api.World) { w.Lines = append(w.Lines, api.Line{}) },
		"more is read than comes in": func(w *api.World) { w.Cells[0].Read = 6 },
		"another's End":              func(w *api.World) { w.Cells[3].End = 3 },
		"another's sample":           func(w *api.World) { w.Lines[1].Vals = []int{1, 2} },
		"too many in a queue":        func(w *api.World) { w.Lines[0].Vals = make([]int, api.MaxDepth+1) },
		"too much is told":           func(w *api.World) { w.Cells[2].Out = make([]int, api.MaxOut+1) },
	} {
		w, _ := kern.Run(relay(), 30)
		turn(&w)
		for _, part := range []int{0, 1, 2, 3, 4, -1} {
			if v, e := view.Of(relay(), w, part); e != api.ErrForm || !noView(v) {
				t.Errorf("%s, %d: %v %d", name, part, v, e)
			}
		}
	}
	w, _ := kern.Run(relay(), api.MaxRun)
	if v, e := view.Of(relay(), w, 2); e != api.OK || !slices.Equal(v.Cell.Out, []int{6}) {
		t.Errorf("the last tick: %v %d", v, e)
	}
}

// J1, J2, P1: a partition that is not there; of Other ahead of what p is.
func TestNone(t *testing.T) {
	for _, s := range []api.System{relay(), of(1), of(2, queue(0, 1))} {
		w, _ := kern.Run(s, 30)
		for _, part := range nones(s) {
			if v, e := view.Of(s, w, part); e != api.ErrNone || !noView(v) {
				t.Errorf("Of %d: %v %d", part, v, e)
			}
			if d, e := view.Purge(s, part); e != api.ErrNone || !noSystem(d) {
				t.Errorf("Purge %d: %v %d", part, d, e)
			}
			for _, p := range []api.Part{stop(), {}, {Code: []api.Instr{{Op: 16}}}, {Code: []api.Instr{{Op: api.Put}}}} {
				if d, e := view.Other(s, part, p); e != api.ErrNone || !noSystem(d) {
					t.Errorf("Other %d: %v %d", part, d, e)
				}
			}
		}
	}
}

// J2: all that do not reach a partition are calm, and all others as they were.
func TestPurge(t *testing.T) {
	for _, x := range []struct {
		name string
		s    api.System
		stay [][]int // of each partition those that reach it
	}{
		{"a relay", relay(), [][]int{{0, 1}, {0, 1}, {0, 1, 2}, {3}}},
		{"no channels", of(4), [][]int{{0}, {1}, {2}, {3}}},
		{"one", of(1), [][]int{{0}}},
		{"a sample leads one way", of(2, sample(1, 0)), [][]int{{0, 1}, {1}}},
		{"a queue leads both ways", of(2, queue(1, 0)), [][]int{{0, 1}, {0, 1}}},
		{"a ring of samples", of(3, sample(0, 1), sample(1, 2), sample(2, 0)), [][]int{{0, 1, 2}, {0, 1, 2}, {0, 1, 2}}},
		{"a row of samples", of(4, sample(3, 2), sample(2, 1), sample(1, 0)), [][]int{{0, 1, 2, 3}, {1, 2, 3}, {2, 3}, {3}}},
		{"a row of queues", of(4, queue(3, 2), queue(2, 1)), [][]int{{0}, {1, 2, 3}, {1, 2, 3}, {1, 2, 3}}},
	} {
		for part, stay := range x.stay {
			want := api.System{Chans: x.s.Chans, Slots: x.s.Slots}
			for n, p := range x.s.Parts {
				if !slices.Contains(stay, n) {
					p = stop()
				}
				want.Parts = append(want.Parts, p)
			}
			for range 2 {
				if d, e := view.Purge(x.s, part); !same(d, want) || e != api.OK {
					t.Errorf("%s, %d: %v %d, want %v", x.name, part, d, e, want)
				}
			}
		}
	}
}

// J2: another one in a partition's place, if the system is right with it.
func TestOther(t *testing.T) {
	most := api.Part{Code: slices.Repeat([]api.Instr{{Op: api.Rest}}, api.MaxCode), In: make([]int, api.MaxIn)}
	for _, x := range []struct {
		name string
		part int
		p    api.Part
		e    api.Errno
	}{
		{"calm", 0, stop(), api.OK},
		{"the same", 1, relay().Parts[1], api.OK},
		{"as much as may be", 3, most, api.OK},
		{"empty lists that are not nil", 2, api.Part{Code: []api.Instr{{Op: api.Out}}, In: []int{}}, api.OK},
		{"its own channels", 1, api.Part{Code: []api.Instr{{Op: api.Put, N: 1}, {Op: api.Get}}}, api.OK},
		{"what comes in", 0, api.Part{Code: relay().Parts[0].Code, In: []int{math.MinInt, math.MaxInt}}, api.OK},

		{"nothing", 0, api.Part{}, api.ErrMany},
		{"no code", 3, api.Part{Code: []api.Instr{}, In: []int{1}}, api.ErrMany},
		{"too much code", 3, api.Part{Code: append(most.Code, api.Instr{Op: api.Rest})}, api.ErrMany},
		{"far too much code", 3, api.Part{Code: make([]api.Instr, 1<<16)}, api.ErrMany},
		{"too much comes in", 2, api.Part{Code: stop().Code, In: make([]int, api.MaxIn+1)}, api.ErrMany},
		{"too much comes in for a wrong code", 2, api.Part{Code: []api.Instr{{}}, In: make([]int, api.MaxIn+1)}, api.ErrMany},
		{"no operation", 0, api.Part{Code: []api.Instr{{Op: api.Stop}, {Op: 16}}}, api.ErrKind},
		{"no register", 1, api.Part{Code: []api.Instr{{Op: api.Out, A: 4}}}, api.ErrRange},
		{"a field too many", 2, api.Part{Code: []api.Instr{{Op: api.Stop, A: 1}}}, api.ErrForm},
		{"another's channel to put by", 3, api.Part{Code: []api.Instr{{Op: api.Put}}}, api.ErrForm},
		{"another's channel to get of", 3, api.Part{Code: []api.Instr{{Op: api.Get, N: 1}}}, api.ErrForm},
		{"a channel the wrong way", 2, api.Part{Code: []api.Instr{{Op: api.Put, N: 1}}}, api.ErrForm},
		{"a channel that is not", 1, api.Part{Code: []api.Instr{{Op: api.Put, N: 2}}}, api.ErrForm},
		{"another's code", 2, relay().Parts[1], api.ErrForm},
	} {
		want := api.System{}
		if x.e == api.OK {
			want = relay()
			want.Parts[x.part] = x.p
		}
		for range 2 {
			if d, e := view.Other(relay(), x.part, x.p); !same(d, want) || e != x.e {
				t.Errorf("%s: %v %d, want %v %d", x.name, d, e, want, x.e)
			}
		}
	}
}

// draw: numbers for long scripts; the same each time.
type draw uint64

func (d *draw) n(n int) int {
	*d = *d*6364136223846793005 + 1442695040888963407
	return int(uint64(*d) >> 33 % uint64(n))
}

// instr is of partition me, and right.
func (d *draw) instr(me, size int, channels []api.Chan) api.Instr {
	if k := d.n(len(channels) + 3); k < len(channels) && channels[k].From == me {
		return api.Instr{Op: api.Put, A: d.n(4), N: k}
	} else if k < len(channels) && channels[k].To == me {
		return api.Instr{Op: api.Get, A: d.n(4), B: d.n(4), N: k}
	}
	a, b := d.n(4), d.n(4)
	return []api.Instr{
		{Op: api.Set, A: a, N: d.n(12) - 2}, {Op: api.Copy, A: a, B: b}, {Op: api.Add, A: a, B: b}, {Op: api.Sub, A: a, B: b},
		{Op: api.Less, A: a, B: b}, {Op: api.Load, A: a, B: b}, {Op: api.Save, A: a, B: b}, {Op: api.Jump, N: d.n(size)},
		{Op: api.Zero, A: a, N: d.n(size)}, {Op: api.In, A: a}, {Op: api.Out, A: a}, {Op: api.In, A: a}, {Op: api.Out, A: a}, {Op: api.Rest},
	}[d.n(14)]
}

// part is one that may stand in a right system as partition me.
func (d *draw) part(me int, channels []api.Chan) api.Part {
	var p api.Part
	size := 3 + d.n(9)
	for range size {
		p.Code = append(p.Code, d.instr(me, size, channels))
	}
	p.Code = append(p.Code, api.Instr{Op: api.Jump})
	for range d.n(5) {
		p.In = append(p.In, d.n(99))
	}
	return p
}

func (d *draw) system() api.System {
	n := 2 + d.n(3)
	var s api.System
	for range d.n(api.MaxChans + 1) {
		a := d.n(n)
		s.Chans = append(s.Chans, api.Chan{Kind: 1 + d.n(2), From: a, To: (a + 1 + d.n(n-1)) % n})
	}
	for me := range n {
		s.Parts = append(s.Parts, d.part(me, s.Chans))
	}
	for range 1 + d.n(api.MaxSlots) {
		s.Slots = append(s.Slots, api.Slot{Part: d.n(n), Ticks: 1 + d.n(api.MaxSpan)})
	}
	return s
}

// reaches is whether something comes from one to the other in so many edges at most.
func reaches(s api.System, from, to, edges int) bool {
	if from == to {
		return true
	}
	return edges > 0 && slices.ContainsFunc(s.Chans, func(c api.Chan) bool {
		return c.From == from && reaches(s, c.To, to, edges-1) ||
			c.Kind == api.Queue && c.To == from && reaches(s, c.From, to, edges-1)
	})
}

// sees is what a partition sees after so many ticks.
func sees(t *testing.T, s api.System, ticks, part int) api.View {
	t.Helper()
	w, e := kern.Run(s, ticks)
	v, f := view.Of(s, w, part)
	if e != api.OK || f != api.OK {
		t.Fatalf("%d of %v: %d %d", part, s, e, f)
	}
	return v
}

// J2, J3: of many systems: those that do not reach a partition are calm, and
// it sees the same; it does so whatever stands in the place of one of them.
func TestHangsOnNothingElse(t *testing.T) {
	d := draw(17)
	calm, all, seen, unseen := 0, 0, 0, 0
	for range 250 {
		s := d.system()
		for me := range s.Parts {
			ticks := d.n(api.MaxRun + 1)
			was := sees(t, s, ticks, me)
			purged, e := view.Purge(s, me)
			if e != api.OK || !slices.Equal(purged.Chans, s.Chans) || !slices.Equal(purged.Slots, s.Slots) {
				t.Fatalf("Purge %d of %v: %v %d", me, s, purged, e)
			}
			if v := sees(t, purged, ticks, me); !sameView(v, was) {
				t.Fatalf("%d of %v after %d: %v, purged %v", me, s, ticks, was, v)
			}
			for n, p := range s.Parts {
				is := reaches(s, n, me, 3)
				if !is {
					p = stop()
					calm++
				} else {
					all++
				}
				if !samePart(purged.Parts[n], p) {
					t.Fatalf("Purge %d of %v: %d is %v", me, s, n, purged.Parts[n])
				}
				other, e := view.Other(s, n, d.part(n, s.Chans))
				if e != api.OK {
					t.Fatalf("Other %d of %v: %d", n, s, e)
				}
				v := sees(t, other, ticks, me)
				switch {
				case !is && !sameView(v, was):
					t.Fatalf("%d does not reach %d of %v, after %d: %v, then %v", n, me, s, ticks, was, v)
				case n != me && is && !sameView(v, was):
					seen++
				case !is:
					unseen++
				}
			}
		}
	}
	if calm < 100 || all < 100 || seen < 50 || unseen < 100 {
		t.Errorf("too little happens: %d calm, %d not; %d seen, %d not", calm, all, seen, unseen)
	}
}

// J3: at each tick, and with no say of one that takes from a sample, or fills another's.
func TestEachTick(t *testing.T) {
	takes := api.Part{Code: []api.Instr{{Op: api.Get, N: 1}, {Op: api.Jump}}}
	s, e := view.Other(relay(), 2, takes)
	if e != api.OK {
		t.Fatal(e)
	}
	changed := 0
	for ticks := range 61 {
		for _, me := range []int{0, 1, 3} {
			if a, b := sees(t, s, ticks, me), sees(t, relay(), ticks, me); !sameView(a, b) {
				t.Errorf("%d after %d: %v, with another third one %v", me, ticks, b, a)
			}
		}
		if !sameView(sees(t, s, ticks, 2), sees(t, relay(), ticks, 2)) {
			changed++
		}
	}
	if changed < 40 {
		t.Errorf("the third one itself sees another thing at %d ticks alone", changed)
	}
}

// roomy is a relay whose lists have spare room, marked, and share their memory.
func roomy() api.System {
	l := []api.Instr{{Op: api.In}, {Op: api.Out}, {Op: 77}}
	in := []int{1, 2, 77}
	parts := slices.Repeat([]api.Part{{Code: l[:2], In: in[:2]}}, 5)
	channels := []api.Chan{queue(0, 1), sample(1, 2), {Kind: 77}}
	slots := []api.Slot{{Part: 1, Ticks: 2}, {Part: 0, Ticks: 3}, {Part: 77}}
	return api.System{Parts: parts[:4], Chans: channels[:2], Slots: slots[:2]}
}

// whole is a copy with the spare room.
func whole(s api.System) api.System {
	d := api.System{Chans: slices.Clone(s.Chans[:cap(s.Chans)]), Slots: slices.Clone(s.Slots[:cap(s.Slots)])}
	for _, p := range s.Parts[:cap(s.Parts)] {
		d.Parts = append(d.Parts, api.Part{Code: slices.Clone(p.Code[:cap(p.Code)]), In: slices.Clone(p.In[:cap(p.In)])})
	}
	return d
}

// spoil marks all memory of a system, of each partition its lists by its number.
func spoil(s api.System) {
	for n, p := range s.Parts {
		for k := range p.Code[:cap(p.Code)] {
			p.Code[:cap(p.Code)][k].Op = 1000 + n
		}
		for k := range p.In[:cap(p.In)] {
			p.In[:cap(p.In)][k] = 1000 + n
		}
	}
	clear(s.Chans[:cap(s.Chans)])
	clear(s.Slots[:cap(s.Slots)])
}

// isSpoilt tells whether each partition's lists have marks of their own.
func isSpoilt(s api.System) bool {
	for n, p := range s.Parts {
		if slices.ContainsFunc(p.Code, func(i api.Instr) bool { return i.Op != 1000+n }) ||
			slices.ContainsFunc(p.In, func(v int) bool { return v != 1000+n }) {
			return false
		}
	}
	return true
}

// P2, P3: of Purge and Other what is handed in stays, its spare room too; an
// answer shares no memory with it, none within itself, and none with a later one.
func TestSystemsOfTheirOwn(t *testing.T) {
	in := []int{5, 6, 77}
	code := []api.Instr{{Op: api.Rest}, {Op: api.Stop}, {Op: 77}}
	purge := func(part int) func(api.System) (api.System, api.Errno) {
		return func(s api.System) (api.System, api.Errno) { return view.Purge(s, part) }
	}
	for name, call := range map[string]func(api.System) (api.System, api.Errno){
		"purge 0": purge(0), "purge 2": purge(2), "purge 3": purge(3),
		"other": func(s api.System) (api.System, api.Errno) {
			return view.Other(s, 1, api.Part{Code: code[:2], In: in[:2]})
		},
		"other, of the system": func(s api.System) (api.System, api.Errno) { return view.Other(s, 1, s.Parts[0]) },
	} {
		s := roomy()
		before := whole(s)
		d, e := call(s)
		want, _ := call(roomy())
		if e != api.OK || !same(whole(s), before) || in[2] != 77 || code[2].Op != 77 {
			t.Fatalf("%s: %d, %v, was %v", name, e, whole(s), before)
		}
		spoil(s)
		clear(s.Parts[:cap(s.Parts)])
		in[0], code[0].Op = 66, 66
		if !same(d, want) {
			t.Fatalf("%s: a later change is seen: %v, want %v", name, d, want)
		}
		in[0], code[0].Op = 5, api.Rest
		spoil(d)
		if !isSpoilt(d) || in[0] != 5 || code[0].Op != api.Rest {
			t.Fatalf("%s: two lists share memory: %v %v %v", name, d, in, code)
		}
		if again, _ := call(roomy()); !same(again, want) {
			t.Fatalf("%s: a change of an answer is seen: %v, want %v", name, again, want)
		}
	}
}

// P2, P3: the same of Of.
func TestViewsOfTheirOwn(t *testing.T) {
	vals := []int{1, 2, 77, 78}
	world := func() api.World {
		cells := []api.Cell{{}, {Out: vals[:2]}, {}, {Out: vals[:1]}, {At: 77}}
		lines := []api.Line{{Vals: vals[:2]}, {Vals: vals[:1]}, {Vals: vals[2:]}}
		return api.World{Tick: 1, Cells: cells[:4], Lines: lines[:2]}
	}
	s, w := relay(), world()
	v, e := view.Of(s, w, 1)
	want := api.View{Cell: api.Cell{Out: []int{1, 2}}, Lines: []api.Line{{Vals: []int{1, 2}}, {Vals: []int{1}}}}
	if e != api.OK || !sameView(v, want) || !reflect.DeepEqual(s, relay()) || !reflect.DeepEqual(w, world()) ||
		!slices.Equal(vals, []int{1, 2, 77, 78}) || w.Cells[:5][4].At != 77 || w.Lines[:3][2].Vals[0] != 77 {
		t.Fatalf("%v %d; %v %v %v", v, e, s, w, vals)
	}
	clear(vals)
	clear(w.Cells)
	clear(w.Lines)
	if !sameView(v, want) {
		t.Fatalf("a later change is seen: %v, want %v", v, want)
	}
	for n, l := range [][]int{v.Cell.Out, v.Lines[0].Vals, v.Lines[1].Vals} {
		for k := range l[:cap(l)] {
			l[:cap(l)][k] = 1000 + n
		}
	}
	want = api.View{Cell: api.Cell{Out: []int{1000, 1000}}, Lines: []api.Line{{Vals: []int{1001, 1001}}, {Vals: []int{1002}}}}
	if !sameView(v, want) || !slices.Equal(vals, make([]int, 4)) {
		t.Fatalf("two lists share memory: %v, want %v", v, want)
	}
	copy(vals, []int{1, 2, 77, 78})
	if v, e := view.Of(relay(), world(), 3); e != api.OK || !sameView(v, api.View{Cell: api.Cell{Out: []int{1}}}) {
		t.Fatalf("a change of an answer is seen: %v %d", v, e)
	}
}

// P1: no call panics, whatever it is handed, and with an error there is nothing else.
func TestAnything(t *testing.T) {
	d := draw(19)
	edges := []int{0, 1, -1, 2, 3, 4, 12, 13, 20, 21, 300, 301, math.MinInt, math.MaxInt}
	edge := func() int { return edges[d.n(len(edges))*(d.n(3)/2)] }
	told := 0
	for range 20000 {
		s := d.system()
		if d.n(4) == 0 {
			s.Parts[0].Code[0] = api.Instr{Op: edge(), A: edge(), N: edge()}
		}
		w := api.World{Tick: edge(), Cells: make([]api.Cell, len(s.Parts)+d.n(8)/7), Lines: make([]api.Line, len(s.Chans)+d.n(8)/7)}
		for k := range w.Cells {
			w.Cells[k] = api.Cell{At: edge(), Read: d.n(9) / 8, End: d.n(16) / 5, Out: make([]int, d.n(17))}
		}
		for k := range w.Lines {
			w.Lines[k].Vals = make([]int, d.n(9)/4)
		}
		part := edge()
		p := api.Part{Code: make([]api.Instr, d.n(21)), In: make([]int, d.n(14))}
		for k := range p.Code {
			p.Code[k] = api.Instr{Op: 1 + d.n(15), A: edge()}
		}
		v, e := view.Of(s, w, part)
		x, f := view.Purge(s, part)
		y, g := view.Other(s, part, p)
		if e != api.OK && !noView(v) || f != api.OK && !noSystem(x) || g != api.OK && !noSystem(y) ||
			f == api.OK && conf.Check(x) != api.OK || g == api.OK && conf.Check(y) != api.OK {
			t.Fatalf("%d of %v in %v: %v %d, %v %d, %v %d", part, w, s, v, e, x, f, y, g)
		}
		if e == api.OK {
			told++
		}
	}
	if told < 500 {
		t.Errorf("only %d views were told", told)
	}
}
