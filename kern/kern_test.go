package kern_test

import (
	"math"
	"reflect"
	"slices"
	"testing"

	"lychgate/api"
	"lychgate/conf"
	"lychgate/kern"
	"lychgate/sched"
)

// relay: 0 puts what comes in to 1 by a queue, 1 to 2 by a sample; 3 is for itself.
func relay() api.System {
	return api.System{
		Parts: []api.Part{
			{Code: []api.Instr{{Op: api.In}, {Op: api.Put}, {Op: api.Jump}}, In: []int{6, 7, 8, 9, 10}},
			{Code: []api.Instr{{Op: api.Get, A: 0, B: 1}, {Op: api.Zero, A: 1}, {Op: api.Out}, {Op: api.Put, N: 1}, {Op: api.Jump}}},
			{Code: []api.Instr{{Op: api.Get, B: 1, N: 1}, {Op: api.Zero, A: 1}, {Op: api.Out}, {Op: api.Stop}}, In: []int{4}},
			{Code: []api.Instr{{Op: api.Out}, {Op: api.Set, A: 1, N: 1}, {Op: api.Add, B: 1}, {Op: api.Jump}}},
		},
		Chans: []api.Chan{{Kind: api.Queue, From: 0, To: 1}, {Kind: api.Sample, From: 1, To: 2}},
		Slots: []api.Slot{{Part: 0, Ticks: 3}, {Part: 1, Ticks: 4}, {Part: 3, Ticks: 1}, {Part: 2, Ticks: 4}},
	}
}

// least has as few of everything as there may be.
func least() api.System {
	return api.System{Parts: []api.Part{{Code: []api.Instr{{Op: api.Stop}}}}, Slots: []api.Slot{{Ticks: 1}}}
}

// does is a system of two: 0 does the code, a tick long; 1 has the other ends of the channels, and no turn.
func does(l ...api.Instr) api.System {
	return api.System{
		Parts: []api.Part{{Code: l}, {Code: []api.Instr{{Op: api.Stop}}}},
		Chans: []api.Chan{{Kind: api.Queue, From: 0, To: 1}, {Kind: api.Sample, From: 0, To: 1}, {Kind: api.Queue, From: 1, To: 0}, {Kind: api.Sample, From: 1, To: 0}},
		Slots: []api.Slot{{Part: 0, Ticks: 1}},
	}
}

// same holds two worlds against each other; an empty list may be nil or not.
func same(a, b api.World) bool {
	return a.Tick == b.Tick &&
		slices.EqualFunc(a.Cells, b.Cells, sameCell) &&
		slices.EqualFunc(a.Lines, b.Lines, func(l, m api.Line) bool { return slices.Equal(l.Vals, m.Vals) })
}

func sameCell(c, d api.Cell) bool {
	return c.At == d.At && c.Regs == d.Regs && c.Mem == d.Mem && c.Read == d.Read && c.End == d.End && slices.Equal(c.Out, d.Out)
}

func isNothing(w api.World) bool { return w.Tick == 0 && len(w.Cells) == 0 && len(w.Lines) == 0 }

// G1: tick 0, zero cells, empty lines, as many as partitions and channels.
func TestBegin(t *testing.T) {
	for _, x := range []struct {
		name         string
		s            api.System
		cells, lines int
	}{
		{"a relay", relay(), 4, 2},
		{"the least", least(), 1, 0},
		{"two", does(api.Instr{Op: api.Rest}), 2, 4},
	} {
		for range 2 {
			want := api.World{Cells: make([]api.Cell, x.cells), Lines: make([]api.Line, x.lines)}
			if w, e := kern.Begin(x.s); !same(w, want) || e != api.OK || kern.Check(x.s, w) != api.OK {
				t.Errorf("%s: %v %d", x.name, w, e)
			}
		}
	}
}

// wrongs are systems that are not right, with conf.Check's error.
func wrongs() map[api.Errno]api.System {
	many, kind, out, form := relay(), relay(), relay(), relay()
	many.Slots = nil
	kind.Chans[1].Kind = 3
	out.Slots[0].Ticks = 9
	form.Parts[3].Code[0] = api.Instr{Op: api.Put}
	return map[api.Errno]api.System{api.ErrMany: many, api.ErrKind: kind, api.ErrRange: out, api.ErrForm: form}
}

// G1, G2, G3, P1: conf.Check's errors come first of all calls, with nothing else.
func TestSystemErrors(t *testing.T) {
	right, _ := kern.Begin(relay())
	wrong := api.World{Tick: -1}
	last := right
	last.Tick = api.MaxRun
	for e, s := range wrongs() {
		if f := conf.Check(s); f != e {
			t.Fatalf("conf.Check tells %d, want %d", f, e)
		}
		if w, f := kern.Begin(s); f != e || !isNothing(w) {
			t.Errorf("Begin: %v %d, want %d", w, f, e)
		}
		for _, x := range []api.World{{}, right, wrong, last} {
			if f := kern.Check(s, x); f != e {
				t.Errorf("Check: %d, want %d", f, e)
			}
			if w, f := kern.Step(s, x); f != e || !isNothing(w) {
				t.Errorf("Step: %v %d, want %d", w, f, e)
			}
		}
		for _, n := range []int{0, 5, api.MaxRun, -1, api.MaxRun + 1, math.MaxInt, math.MinInt} {
			if w, f := kern.Run(s, n); f != e || !isNothing(w) {
				t.Errorf("Run %d: %v %d, want %d", n, w, f, e)
			}
		}
	}
}

// G1: worlds of a relay that are right, and not; G2, P1: Step tells it, with nothing else.
func TestCheck(t *testing.T) {
	for _, x := range []struct {
		name string
		turn func(w *api.World)
		e    api.Errno
	}{
		{"as it is", func(w *api.World) {}, api.OK},
		{"tick 0", func(w *api.World) { w.Tick = 0 }, api.OK},
		{"the tick ahead of the last", func(w *api.World) { w.Tick = api.MaxRun - 1 }, api.OK},
		{"tick below 0", func(w *api.World) { w.Tick = -1 }, api.ErrForm},
		{"tick far below 0", func(w *api.World) { w.Tick = math.MinInt }, api.ErrForm},
		{"tick above", func(w *api.World) { w.Tick = api.MaxRun + 1 }, api.ErrForm},
		{"tick far above", func(w *api.World) { w.Tick = math.MaxInt }, api.ErrForm},

		{"nothing", func(w *api.World) { *w = api.World{} }, api.ErrForm},
		{"no cells", func(w *api.World) { w.Cells = nil }, api.ErrForm},
		{"a cell too few", func(w *api.World) { w.Cells = w.Cells[:3] }, api.ErrForm},
		{"a cell too many", func(w *api.World) { w.Cells = append(w.Cells, api.Cell{}) }, api.ErrForm},
		{"far too many cells", func(w *api.World) { w.Cells = make([]api.Cell, 1<<16) }, api.ErrForm},
		{"no lines", func(w *api.World) { w.Lines = nil }, api.ErrForm},
		{"a line too few", func(w *api.World) { w.Lines = w.Lines[:1] }, api.ErrForm},
		{"a line too many", func(w *api.World) { w.Lines = append(w.Lines, api.Line{}) }, api.ErrForm},

		{"At behind the code", func(w *api.World) { w.Cells[0].At = api.MaxCode }, api.OK},
		{"At above", func(w *api.World) { w.Cells[0].At = api.MaxCode + 1 }, api.ErrForm},
		{"At below 0", func(w *api.World) { w.Cells[3].At = -1 }, api.ErrForm},
		{"all is read", func(w *api.World) { w.Cells[0].Read = 5 }, api.OK},
		{"more is read than comes in", func(w *api.World) { w.Cells[0].Read = 6 }, api.ErrForm},
		{"all is read by another", func(w *api.World) { w.Cells[2].Read = 1 }, api.OK},
		{"more is read by another than comes in for it", func(w *api.World) { w.Cells[2].Read = 2 }, api.ErrForm},
		{"something is read where nothing comes in", func(w *api.World) { w.Cells[3].Read = 1 }, api.ErrForm},
		{"Read below 0", func(w *api.World) { w.Cells[1].Read = -1 }, api.ErrForm},
		{"End Faulted", func(w *api.World) { w.Cells[1].End = api.Faulted }, api.OK},
		{"End above", func(w *api.World) { w.Cells[1].End = 3 }, api.ErrForm},
		{"End below 0", func(w *api.World) { w.Cells[2].End = -1 }, api.ErrForm},
		{"Out is full", func(w *api.World) { w.Cells[3].Out = make([]int, api.MaxOut) }, api.OK},
		{"Out has too many", func(w *api.World) { w.Cells[3].Out = make([]int, api.MaxOut+1) }, api.ErrForm},
		{"any registers and memory", func(w *api.World) { w.Cells[3].Regs[3], w.Cells[3].Mem[7] = math.MinInt, math.MaxInt }, api.OK},

		{"a full queue", func(w *api.World) { w.Lines[0].Vals = []int{1, 2, 3} }, api.OK},
		{"a queue with too many", func(w *api.World) { w.Lines[0].Vals = []int{1, 2, 3, 4} }, api.ErrForm},
		{"a sample", func(w *api.World) { w.Lines[1].Vals = []int{1} }, api.OK},
		{"a sample with a queue's number", func(w *api.World) { w.Lines[1].Vals = []int{1, 2} }, api.ErrForm},
		{"empty lists that are not nil", func(w *api.World) { w.Cells[2].Out, w.Lines[0].Vals = []int{}, []int{} }, api.OK},
	} {
		w, _ := kern.Run(relay(), 7)
		x.turn(&w)
		for range 2 {
			if e := kern.Check(relay(), w); e != x.e {
				t.Errorf("%s: Check tells %d, want %d", x.name, e, x.e)
			}
			d, e := kern.Step(relay(), w)
			if e != x.e || e != api.OK && !isNothing(d) || e == api.OK && d.Tick != w.Tick+1 {
				t.Errorf("%s: Step tells %v %d, want %d", x.name, d, e, x.e)
			}
		}
	}
}

// G2, G3: behind the last tick there is none; a wrong world is told ahead of it.
func TestLastTick(t *testing.T) {
	for _, s := range []api.System{relay(), least()} {
		w, e := kern.Run(s, api.MaxRun)
		if w.Tick != api.MaxRun || e != api.OK || kern.Check(s, w) != api.OK {
			t.Fatalf("%v %d", w, e)
		}
		if d, e := kern.Step(s, w); e != api.ErrRange || !isNothing(d) {
			t.Errorf("Step of the last: %v %d", d, e)
		}
		w.Cells[0].End = 3
		if d, e := kern.Step(s, w); e != api.ErrForm || !isNothing(d) {
			t.Errorf("Step of a wrong one: %v %d", d, e)
		}
		w, e = kern.Run(s, api.MaxRun-1)
		if d, f := kern.Step(s, w); e != api.OK || f != api.OK || d.Tick != api.MaxRun {
			t.Errorf("the last Step: %v %d %d", d, e, f)
		}
	}
}

// G3, P1: n out of its bounds.
func TestRunRange(t *testing.T) {
	for _, n := range []int{-1, api.MaxRun + 1, math.MinInt, math.MaxInt, 1 << 32} {
		if w, e := kern.Run(relay(), n); e != api.ErrRange || !isNothing(w) {
			t.Errorf("%d: %v %d", n, w, e)
		}
	}
}

// G2: what a cell wants is done, and comes to it.
func TestWants(t *testing.T) {
	put := func(n int) api.Instr { return api.Instr{Op: api.Put, A: 2, N: n} }
	get := func(n int) api.Instr { return api.Instr{Op: api.Get, A: 2, B: 3, N: n} }
	for _, x := range []struct {
		name         string
		i            api.Instr
		lines, after [4][]int
		regs         [api.Regs]int
	}{
		{"put by a queue", put(0), [4][]int{{4}}, [4][]int{{4, 50}}, [4]int{10, 20, 1, 40}},
		{"put by an empty queue", put(0), [4][]int{}, [4][]int{{50}}, [4]int{10, 20, 1, 40}},
		{"put by a queue with room for one", put(0), [4][]int{{4, 5}}, [4][]int{{4, 5, 50}}, [4]int{10, 20, 1, 40}},
		{"put by a full queue", put(0), [4][]int{{4, 5, 6}}, [4][]int{{4, 5, 6}}, [4]int{10, 20, 0, 40}},
		{"put by an empty sample", put(1), [4][]int{}, [4][]int{1: {50}}, [4]int{10, 20, 50, 40}},
		{"put by a sample", put(1), [4][]int{1: {7}}, [4][]int{1: {50}}, [4]int{10, 20, 50, 40}},
		{"get by a queue", get(2), [4][]int{2: {4, 5}}, [4][]int{2: {5}}, [4]int{10, 20, 4, 1}},
		{"get by a full queue", get(2), [4][]int{2: {4, 5, 6}}, [4][]int{2: {5, 6}}, [4]int{10, 20, 4, 1}},
		{"get by an empty queue", get(2), [4][]int{}, [4][]int{}, [4]int{10, 20, 50, 0}},
		{"get by a sample", get(3), [4][]int{3: {8}}, [4][]int{3: {8}}, [4]int{10, 20, 8, 1}},
		{"get by an empty sample", get(3), [4][]int{}, [4][]int{}, [4]int{10, 20, 50, 0}},
		{"others' lines stay", put(0), [4][]int{{1}, {2}, {3, 4}, {5}}, [4][]int{{1, 50}, {2}, {3, 4}, {5}}, [4]int{10, 20, 1, 40}},
	} {
		w := api.World{Tick: 9, Cells: []api.Cell{{Regs: [4]int{10, 20, 50, 40}}, {At: 3, Out: []int{1}}}}
		want := api.World{Tick: 10, Cells: []api.Cell{{At: 1, Regs: x.regs}, {At: 3, Out: []int{1}}}}
		for k := range x.lines {
			w.Lines = append(w.Lines, api.Line{Vals: x.lines[k]})
			want.Lines = append(want.Lines, api.Line{Vals: x.after[k]})
		}
		if d, e := kern.Step(does(x.i), w); !same(d, want) || e != api.OK {
			t.Errorf("%s: %v %d, want %v", x.name, d, e, want)
		}
	}
}

// G2: a tick goes by even if the cell does nothing, or can't go on.
func TestTickGoesBy(t *testing.T) {
	load := api.Instr{Op: api.Load, B: 1}
	for _, x := range []struct {
		name      string
		i         api.Instr
		had, want api.Cell
	}{
		{"rest", api.Instr{Op: api.Rest}, api.Cell{}, api.Cell{At: 1}},
		{"stop", api.Instr{Op: api.Stop}, api.Cell{}, api.Cell{End: api.Stopped}},
		{"stopped", api.Instr{Op: api.Out}, api.Cell{End: api.Stopped}, api.Cell{End: api.Stopped}},
		{"faulted", api.Instr{Op: api.Out}, api.Cell{End: api.Faulted}, api.Cell{End: api.Faulted}},
		{"stopped ahead of a Put", api.Instr{Op: api.Put}, api.Cell{End: api.Stopped}, api.Cell{End: api.Stopped}},
		{"no place", api.Instr{Op: api.Out}, api.Cell{At: 1}, api.Cell{At: 1, End: api.Faulted}},
		{"the last place there is", api.Instr{Op: api.Out}, api.Cell{At: api.MaxCode}, api.Cell{At: api.MaxCode, End: api.Faulted}},
		{"no memory", load, api.Cell{Regs: [4]int{0, -1}}, api.Cell{Regs: [4]int{0, -1}, End: api.Faulted}},
	} {
		w := api.World{Tick: 5, Cells: []api.Cell{x.had, {}}, Lines: make([]api.Line, 4)}
		want := api.World{Tick: 6, Cells: []api.Cell{x.want, {}}, Lines: make([]api.Line, 4)}
		if d, e := kern.Step(does(x.i), w); !same(d, want) || e != api.OK {
			t.Errorf("%s: %v %d, want %v", x.name, d, e, want)
		}
	}
}

// The document's seventh example: after 12 ticks the third one has told 6.
func TestExample(t *testing.T) {
	w, e := kern.Run(relay(), 12)
	want := api.World{
		Tick: 12,
		Cells: []api.Cell{
			{Regs: [4]int{1}, Read: 1},
			{At: 4, Regs: [4]int{6, 1}, Out: []int{6}},
			{At: 3, Regs: [4]int{6, 1}, Out: []int{6}, End: api.Stopped},
			{At: 1, Out: []int{0}},
		},
		Lines: []api.Line{{}, {Vals: []int{6}}},
	}
	if !same(w, want) || e != api.OK {
		t.Errorf("%v %d, want %v", w, e, want)
	}
}

// G2: a world need not have come of a run; whose turn it is is told by Tick alone.
func TestAnyWorld(t *testing.T) {
	for tick := range api.MaxRun {
		w, _ := kern.Begin(relay())
		w.Tick = tick
		d, e := kern.Step(relay(), w)
		who, _ := sched.Who(relay(), tick)
		for n := range w.Cells {
			if e != api.OK || sameCell(d.Cells[n], w.Cells[n]) != (n != who) {
				t.Errorf("at %d: %v %d", tick, d, e)
			}
		}
	}
}

// draw: numbers for long scripts; the same each time.
type draw uint64

func (d *draw) n(n int) int {
	*d = *d*6364136223846793005 + 1442695040888963407
	return int(uint64(*d) >> 33 % uint64(n))
}

// instr is of partition me, and right.
func (d *draw) instr(me, size int, channels []api.Chan) api.Instr {
	if k := d.n(len(channels) + 3); k < len(channels) && channels[k].From == me {
		return api.Instr{Op: api.Put, A: d.n(4), N: k}
	} else if k < len(channels) && channels[k].To == me {
		return api.Instr{Op: api.Get, A: d.n(4), B: d.n(4), N: k}
	}
	a, b := d.n(4), d.n(4)
	return []api.Instr{
		{Op: api.Set, A: a, N: d.n(12) - 2}, {Op: api.Copy, A: a, B: b}, {Op: api.Add, A: a, B: b}, {Op: api.Sub, A: a, B: b},
		{Op: api.Less, A: a, B: b}, {Op: api.Load, A: a, B: b}, {Op: api.Save, A: a, B: b}, {Op: api.Jump, N: d.n(size)},
		{Op: api.Zero, A: a, N: d.n(size)}, {Op: api.In, A: a}, {Op: api.Out, A: a}, {Op: api.In, A: a}, {Op: api.Out, A: a}, {Op: api.Rest},
	}[d.n(14)]
}

func (d *draw) system() api.System {
	n := 2 + d.n(3)
	var s api.System
	for range d.n(api.MaxChans + 1) {
		a := d.n(n)
		s.Chans = append(s.Chans, api.Chan{Kind: 1 + d.n(2), From: a, To: (a + 1 + d.n(n-1)) % n})
	}
	for me := range n {
		var p api.Part
		size := 3 + d.n(9)
		for range size {
			p.Code = append(p.Code, d.instr(me, size, s.Chans))
		}
		p.Code = append(p.Code, api.Instr{Op: api.Jump})
		for range d.n(5) {
			p.In = append(p.In, d.n(99))
		}
		s.Parts = append(s.Parts, p)
	}
	for range 1 + d.n(api.MaxSlots) {
		s.Slots = append(s.Slots, api.Slot{Part: d.n(n), Ticks: 1 + d.n(api.MaxSpan)})
	}
	return s
}

// turns is a frame in the plainest way: a partition for each tick.
func turns(s api.System) []int {
	var l []int
	for _, x := range s.Slots {
		l = append(l, slices.Repeat([]int{x.Part}, x.Ticks)...)
	}
	return l
}

// plain does a tick in the plainest way, in place.
func plain(s api.System, w *api.World) {
	frame := turns(s)
	me := frame[w.Tick%len(frame)]
	w.Tick++
	c, p := &w.Cells[me], s.Parts[me]
	if c.End != api.Runs {
		return
	}
	if c.At >= len(p.Code) {
		c.End = api.Faulted
		return
	}
	i := p.Code[c.At]
	a, b := &c.Regs[i.A], c.Regs[i.B]
	if (i.Op == api.Load || i.Op == api.Save) && (b < 0 || b > 7) {
		c.End = api.Faulted
		return
	}
	c.At++
	switch i.Op {
	case api.Set:
		*a = i.N
	case api.Copy:
		*a = b
	case api.Add:
		*a += b
	case api.Sub:
		*a -= b
	case api.Less:
		*a = map[bool]int{true: 1}[*a < b]
	case api.Load:
		*a = c.Mem[b]
	case api.Save:
		c.Mem[b] = *a
	case api.Jump:
		c.At = i.N
	case api.Zero:
		if *a == 0 {
			c.At = i.N
		}
	case api.In:
		*a = 0
		if c.Read < len(p.In) {
			*a = p.In[c.Read]
			c.Read++
		}
	case api.Out:
		if len(c.Out) < 16 {
			c.Out = append(c.Out, *a)
		}
	case api.Stop:
		c.At--
		c.End = api.Stopped
	case api.Put:
		plainPut(s.Chans[i.N].Kind, &w.Lines[i.N], a)
	case api.Get:
		plainGet(s.Chans[i.N].Kind, &w.Lines[i.N], a, &c.Regs[i.B])
	}
}

func plainPut(kind int, l *api.Line, a *int) {
	switch {
	case kind == api.Sample:
		l.Vals = []int{*a}
	case len(l.Vals) == 3:
		*a = 0
	default:
		l.Vals = append(l.Vals, *a)
		*a = 1
	}
}

func plainGet(kind int, l *api.Line, a, flag *int) {
	if len(l.Vals) == 0 {
		*flag = 0
		return
	}
	*a = l.Vals[0]
	*flag = 1
	if kind == api.Queue {
		l.Vals = l.Vals[1:]
	}
}

// G1, G2, G3, P3: of many systems Step, Run and the plainest way are one, tick by tick; a right world stays right.
func TestPlain(t *testing.T) {
	d := draw(7)
	full, taken, ends := 0, 0, [3]int{}
	for k := range 400 {
		s := d.system()
		w, e := kern.Begin(s)
		want, _ := kern.Begin(s)
		if e != api.OK {
			t.Fatalf("%v: %d", s, e)
		}
		for n := range 120 {
			next, e := kern.Step(s, w)
			again, f := kern.Step(s, w)
			plain(s, &want)
			if !same(next, want) || e != api.OK || !same(again, want) || f != api.OK || kern.Check(s, next) != api.OK {
				t.Fatalf("%d: %v, then %v %d, want %v", k, w, next, e, want)
			}
			w = next
			if n%40 != 39 {
				continue
			}
			if r, e := kern.Run(s, n+1); !same(r, want) || e != api.OK {
				t.Fatalf("%d: Run %d: %v %d, want %v", k, n+1, r, e, want)
			}
		}
		for n, l := range w.Lines {
			if len(l.Vals) == api.MaxDepth {
				full++
			} else if s.Chans[n].Kind == api.Queue && len(l.Vals) > 0 {
				taken++
			}
		}
		for _, c := range w.Cells {
			ends[c.End]++
		}
	}
	if full < 20 || taken < 10 || ends[api.Faulted] < 20 || ends[api.Runs] < 20 {
		t.Errorf("too little happens: %d full queues, %d others, ends %v", full, taken, ends)
	}
}

// changed is the partitions whose cells are not the same.
func changed(a, b api.World) []int {
	var l []int
	for n := range a.Cells {
		if !sameCell(a.Cells[n], b.Cells[n]) {
			l = append(l, n)
		}
	}
	return l
}

// G4: whose turn it is hangs on nothing that happens: at each tick only the
// cell of Who's partition changes, whatever the codes are; one that always
// goes on changes at each of its ticks.
func TestTurns(t *testing.T) {
	d := draw(13)
	for range 100 {
		s := d.system()
		busy := api.System{Chans: s.Chans, Slots: s.Slots}
		for range s.Parts {
			busy.Parts = append(busy.Parts, api.Part{Code: []api.Instr{{Op: api.Rest}, {Op: api.Jump}}})
		}
		w, _ := kern.Begin(s)
		b, _ := kern.Begin(busy)
		for tick := range 100 {
			who, _ := sched.Who(s, tick)
			w2, e := kern.Step(s, w)
			b2, f := kern.Step(busy, b)
			if e != api.OK || f != api.OK || w2.Tick != tick+1 || b2.Tick != tick+1 {
				t.Fatalf("at %d: %v %d, %v %d", tick, w2, e, b2, f)
			}
			if l := changed(b, b2); !slices.Equal(l, []int{who}) {
				t.Fatalf("at %d, %d's turn, there change %v", tick, who, l)
			}
			if l := changed(w, w2); len(l) > 0 && !slices.Equal(l, []int{who}) {
				t.Fatalf("at %d, %d's turn, there change %v", tick, who, l)
			}
			w, b = w2, b2
		}
	}
}

// roomy is a world of a relay whose lists have spare room, marked, and share their memory.
func roomy() api.World {
	told := []int{1, 2, 77, 78}
	cells := []api.Cell{{At: 1, Regs: [4]int{5}, Out: told[:2]}, {Out: told[:2]}, {Out: told[:2]}, {Out: told[:2]}, {At: 77}}
	lines := []api.Line{{Vals: told[:2]}, {Vals: told[:1]}, {Vals: told[3:]}}
	return api.World{Tick: 1, Cells: cells[:4], Lines: lines[:2]}
}

// whole is a copy with the spare room.
func whole(w api.World) api.World {
	d := api.World{Tick: w.Tick}
	for _, c := range w.Cells[:cap(w.Cells)] {
		c.Out = slices.Clone(c.Out[:cap(c.Out)])
		d.Cells = append(d.Cells, c)
	}
	for _, l := range w.Lines[:cap(w.Lines)] {
		d.Lines = append(d.Lines, api.Line{Vals: slices.Clone(l.Vals[:cap(l.Vals)])})
	}
	return d
}

// lists are all lists of numbers of a world.
func lists(w api.World) [][]int {
	var l [][]int
	for _, c := range w.Cells {
		l = append(l, c.Out)
	}
	for _, x := range w.Lines {
		l = append(l, x.Vals)
	}
	return l
}

// P2: what is handed in stays, its spare room too; an answer shares no memory with it, and none within itself.
func TestOwnMemory(t *testing.T) {
	puts, outs := relay(), relay()
	outs.Parts[0].Code[1] = api.Instr{Op: api.Out}
	gets := relay()
	gets.Slots = gets.Slots[1:]
	for name, s := range map[string]api.System{"put": puts, "out": outs, "get": gets} {
		w := roomy()
		before := whole(w)
		d, e := kern.Step(s, w)
		want, _ := kern.Step(s, w)
		if e != api.OK || !same(whole(w), before) {
			t.Fatalf("%s: %d, %v, was %v", name, e, whole(w), before)
		}
		for _, l := range lists(w) {
			l = l[:cap(l)]
			for k := range l {
				l[k] = 66
			}
		}
		clear(w.Cells[:cap(w.Cells)])
		clear(w.Lines[:cap(w.Lines)])
		if !same(d, want) {
			t.Fatalf("%s: a later change is seen: %v, want %v", name, d, want)
		}
		for n, l := range lists(d) {
			l = l[:cap(l)]
			for k := range l {
				l[k] = 1000 + n
			}
		}
		for n, l := range lists(d) {
			for _, v := range l {
				if v != 1000+n {
					t.Fatalf("%s: two lists of an answer share memory: %v", name, d)
				}
			}
		}
	}
}

// P2, P3: a change of an answer, or of a system, is not seen by a later call.
func TestNothingKept(t *testing.T) {
	s := relay()
	w, _ := kern.Run(s, 100)
	want, _ := kern.Run(relay(), 100)
	if !reflect.DeepEqual(s, relay()) {
		t.Fatalf("the system changes: %v", s)
	}
	s.Parts[0].In[0], s.Parts[3].Code[0].Op, s.Slots[0].Ticks, s.Chans[0].Kind = 66, api.Stop, 1, api.Sample
	if !same(w, want) {
		t.Fatalf("a later change is seen: %v, want %v", w, want)
	}
	b, _ := kern.Begin(relay())
	b.Cells[0].At, b.Lines[0].Vals = 7, []int{5}
	w.Cells[1].Out[0], w.Lines[1].Vals[0] = 66, 66
	if again, _ := kern.Run(relay(), 100); !same(again, want) {
		t.Fatalf("a change of an answer is seen: %v, want %v", again, want)
	}
	if again, _ := kern.Begin(relay()); again.Cells[0].At != 0 || len(again.Lines[0].Vals) != 0 {
		t.Fatalf("a change of an answer is seen: %v", again)
	}
}

// P1: no call panics, whatever it is handed, and with an error there is nothing else.
func TestAnything(t *testing.T) {
	d := draw(5)
	edges := []int{0, 1, -1, 2, 3, 12, 13, 20, 21, 300, 301, math.MinInt, math.MaxInt}
	edge := func() int { return edges[d.n(len(edges))*(d.n(3)/2)] }
	told := 0
	for range 20000 {
		s := d.system()
		if d.n(4) == 0 {
			s.Parts[0].Code[0] = api.Instr{Op: edge(), A: edge(), N: edge()}
		}
		w := api.World{Tick: edge(), Cells: make([]api.Cell, len(s.Parts)+d.n(8)/7), Lines: make([]api.Line, len(s.Chans)+d.n(8)/7)}
		for k := range w.Cells {
			w.Cells[k] = api.Cell{At: edge(), Regs: [4]int{edge(), edge()}, Read: d.n(9) / 8, End: d.n(16) / 5, Out: make([]int, d.n(17))}
		}
		for k := range w.Lines {
			w.Lines[k].Vals = make([]int, d.n(9)/4)
		}
		e := kern.Check(s, w)
		x, f := kern.Step(s, w)
		if f != api.OK && !isNothing(x) || e != api.OK && f != e || e == api.OK && f != api.OK && w.Tick != api.MaxRun {
			t.Fatalf("%v of %v: %d, %v %d", w, s, e, x, f)
		}
		if f == api.OK {
			told++
		}
		if x, f := kern.Run(s, edge()); f != api.OK && !isNothing(x) {
			t.Fatalf("%v: %v %d", s, x, f)
		}
	}
	if told < 500 {
		t.Errorf("only %d steps were done", told)
	}
}
