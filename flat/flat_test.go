package flat_test

import (
	"math"
	"reflect"
	"slices"
	"testing"

	"lychgate/api"
	"lychgate/conf"
	"lychgate/flat"
	"lychgate/kern"
	"lychgate/sched"
)

// relay: 0 puts what comes in to 1 by a queue, 1 to 2 by a sample; 3 is for itself.
func relay() api.System {
	return api.System{
		Parts: []api.Part{
			{Code: []api.Instr{{Op: api.In}, {Op: api.Put}, {Op: api.Jump}}, In: []int{6, 7, 8, 9, 10}},
			{Code: []api.Instr{{Op: api.Get, A: 0, B: 1}, {Op: api.Zero, A: 1}, {Op: api.Out}, {Op: api.Put, N: 1}, {Op: api.Jump}}},
			{Code: []api.Instr{{Op: api.Get, B: 1, N: 1}, {Op: api.Zero, A: 1}, {Op: api.Out}, {Op: api.Stop}}, In: []int{4}},
			{Code: []api.Instr{{Op: api.Out}, {Op: api.Set, A: 1, N: 1}, {Op: api.Add, B: 1}, {Op: api.Jump}}},
		},
		Chans: []api.Chan{{Kind: api.Queue, From: 0, To: 1}, {Kind: api.Sample, From: 1, To: 2}},
		Slots: []api.Slot{{Part: 0, Ticks: 3}, {Part: 1, Ticks: 4}, {Part: 3, Ticks: 1}, {Part: 2, Ticks: 4}},
	}
}

// least has as few of everything as there may be.
func least() api.System {
	return api.System{Parts: []api.Part{{Code: []api.Instr{{Op: api.Stop}}, In: []int{3, 3}}}, Slots: []api.Slot{{Ticks: 1}}}
}

// two has a queue and a sample, both from 1 to 0.
func two() api.System {
	s := least()
	s.Parts = append(s.Parts, api.Part{Code: []api.Instr{{Op: api.Rest}}})
	s.Chans = []api.Chan{{Kind: api.Queue, From: 1, To: 0}, {Kind: api.Sample, From: 1, To: 0}}
	return s
}

// same holds two worlds against each other; an empty list may be nil or not.
func same(a, b api.World) bool {
	return a.Tick == b.Tick &&
		slices.EqualFunc(a.Cells, b.Cells, sameCell) &&
		slices.EqualFunc(a.Lines, b.Lines, func(l, m api.Line) bool { return slices.Equal(l.Vals, m.Vals) })
}

func sameCell(c, d api.Cell) bool {
	return c.At == d.At && c.Regs == d.Regs && c.Mem == d.Mem && c.Read == d.Read && c.End == d.End && slices.Equal(c.Out, d.Out)
}

func isNothing(w api.World) bool { return w.Tick == 0 && len(w.Cells) == 0 && len(w.Lines) == 0 }

// world is a right one of two, each number of it another one.
func world() api.World {
	return api.World{
		Tick: 299,
		Cells: []api.Cell{
			{At: 20, Regs: [4]int{101, 102, math.MinInt, 104}, Mem: [8]int{111, 112, 113, 114, 115, 116, 117, math.MaxInt}, Read: 2, Out: []int{121, -122, 123}, End: 1},
			{At: 3, Regs: [4]int{201, 202, 203, 204}, Mem: [8]int{211, 212, 213, 214, 215, 216, 217, 218}, End: 2},
		},
		Lines: []api.Line{{Vals: []int{301, 302}}, {Vals: []int{311}}},
	}
}

// laid is the row of world.
func laid() []int {
	return slices.Concat(
		[]int{299},
		[]int{20, 101, 102, math.MinInt, 104, 111, 112, 113, 114, 115, 116, 117, math.MaxInt, 2, 1, 3, 121, -122, 123}, make([]int, 13),
		[]int{3, 201, 202, 203, 204, 211, 212, 213, 214, 215, 216, 217, 218, 0, 2, 0}, make([]int, 16),
		[]int{2, 301, 302, 0}, []int{1, 311, 0, 0},
	)
}

// K1: each number stands where it must, by Lay and by Lift.
func TestRow(t *testing.T) {
	for range 2 {
		if l, e := flat.Lay(two(), world()); !slices.Equal(l, laid()) || e != api.OK {
			t.Errorf("Lay: %v %d, want %v", l, e, laid())
		}
		if w, e := flat.Lift(two(), laid()); !same(w, world()) || e != api.OK {
			t.Errorf("Lift: %v %d, want %v", w, e, world())
		}
	}
}

// K1: how long a row is hangs on the system alone; the document's eleventh example among them.
func TestLong(t *testing.T) {
	for _, x := range []struct {
		name string
		s    api.System
		long int
	}{
		{"a relay", relay(), 137},
		{"the least", least(), 33},
		{"two", two(), 73},
	} {
		for _, ticks := range []int{0, 1, 12, 60, api.MaxRun} {
			w, _ := kern.Run(x.s, ticks)
			l, e := flat.Lay(x.s, w)
			if len(l) != x.long || e != api.OK || l[0] != ticks {
				t.Errorf("%s after %d: %v %d", x.name, ticks, l, e)
			}
			if d, e := flat.Lift(x.s, l); !same(d, w) || e != api.OK {
				t.Errorf("%s after %d: Lift tells %v %d, want %v", x.name, ticks, d, e, w)
			}
		}
		w, _ := kern.Begin(x.s)
		if l, e := flat.Lay(x.s, w); !slices.Equal(l, make([]int, x.long)) || e != api.OK {
			t.Errorf("%s at its beginning: %v %d", x.name, l, e)
		}
	}
}

// K1: lists that are full, and lists that are empty and not nil.
func TestFull(t *testing.T) {
	w := world()
	w.Cells[0].Out = slices.Repeat([]int{7}, api.MaxOut)
	w.Cells[1].Out = []int{}
	w.Lines[0].Vals = []int{8, 9, 10}
	w.Lines[1].Vals = []int{}
	l, e := flat.Lay(two(), w)
	if e != api.OK || len(l) != 73 || l[16] != 16 || slices.ContainsFunc(l[17:33], func(n int) bool { return n != 7 }) ||
		!slices.Equal(l[65:], []int{3, 8, 9, 10, 0, 0, 0, 0}) {
		t.Errorf("%v %d", l, e)
	}
	if d, e := flat.Lift(two(), l); !same(d, w) || e != api.OK {
		t.Errorf("%v %d, want %v", d, e, w)
	}
}

// K1, P1: Lay tells kern.Check's errors, with nothing else.
func TestWrongWorlds(t *testing.T) {
	for name, turn := range map[string]func(w *api.World){
		"nothing":                    func(w *api.World) { *w = api.World{} },
		"tick below 0":               func(w *api.World) { w.Tick = -1 },
		"tick above":                 func(w *api.World) { w.Tick = api.MaxRun + 1 },
		"a cell too few":             func(w *api.World) { w.Cells = w.Cells[:1] },
		"a cell too many":            func(w *api.World) { w.Cells = append(w.Cells, api.Cell{}) },
		"a line too few":             func(w *api.World) { w.Lines = w.Lines[:1] },
		"a line too many":            func(w *api.World) { w.Lines = append(w.Lines, api.Line{}) },
		"At above":                   func(w *api.World) { w.Cells[0].At = api.MaxCode + 1 },
		"At below 0":                 func(w *api.World) { w.Cells[1].At = -1 },
		"more is read than comes in": func(w *api.World) { w.Cells[0].Read = 3 },
		"Read below 0":               func(w *api.World) { w.Cells[1].Read = -1 },
		"End above":                  func(w *api.World) { w.Cells[1].End = 3 },
		"too much is told":           func(w *api.World) { w.Cells[1].Out = make([]int, api.MaxOut+1) },
		"too many in a queue":        func(w *api.World) { w.Lines[0].Vals = make([]int, api.MaxDepth+1) },
		"too many in a sample":       func(w *api.World) { w.Lines[1].Vals = make([]int, 2) },
	} {
		w := world()
		turn(&w)
		if l, e := flat.Lay(two(), w); len(l) != 0 || e != api.ErrForm {
			t.Errorf("%s: %v %d", name, l, e)
		}
	}
}

// Places of the row of world.
const (
	read1 = 14
	end1  = 15
	many1 = 16
	out1  = 17
	at2   = 33
	read2 = 46
	many2 = 48
	queue = 65
	value = 69 // of the sample
)

// K1, P1: rows of which there is no right world, or one.
func TestWrongRows(t *testing.T) {
	for _, x := range []struct {
		name string
		at   int
		nums []int
		is   bool
	}{
		{"tick 0", 0, []int{0}, true},
		{"the last tick", 0, []int{300}, true},
		{"tick above", 0, []int{301}, false},
		{"tick below 0", 0, []int{-1}, false},
		{"tick far above", 0, []int{math.MaxInt}, false},
		{"At 0", 1, []int{0}, true},
		{"At above", 1, []int{21}, false},
		{"At below 0", at2, []int{-1}, false},
		{"any register", 2, []int{math.MaxInt, math.MinInt, -1, 0}, true},
		{"any memory", 6, []int{math.MaxInt, math.MinInt, -1, 0, 1, 2, 3, 4}, true},
		{"more is read than comes in", read1, []int{3}, false},
		{"less is read than comes in", read1, []int{0}, true},
		{"Read below 0", read1, []int{-1}, false},
		{"something is read where nothing comes in", read2, []int{1}, false},
		{"End 0", end1, []int{0}, true},
		{"End above", end1, []int{3}, false},
		{"End below 0", end1, []int{-1}, false},

		{"one told more", many1, []int{4}, true},
		{"all told", many1, []int{16}, true},
		{"all told, the last one not 0", many1, append([]int{16}, slices.Repeat([]int{5}, 16)...), true},
		{"one told less, and it is not 0", many1, []int{2}, false},
		{"one told less, and it is 0", many1, []int{2, 121, -122, 0}, true},
		{"none told", many1, []int{0, 0, 0, 0}, true},
		{"none told, and one is not 0", many1, []int{0, 0, 0, 1}, false},
		{"more told than there is room", many1, []int{17}, false},
		{"far more told", many1, []int{math.MaxInt}, false},
		{"fewer told than none", many1, []int{-1}, false},
		{"far fewer told", many1, []int{math.MinInt}, false},
		{"behind what is told", out1 + 3, []int{1}, false},
		{"the last one behind what is told", out1 + 15, []int{-1}, false},
		{"the first one where none is told", many2 + 1, []int{1}, false},
		{"one told where none was", many2, []int{1}, true},

		{"a full queue", queue, []int{3, 1, 2, 3}, true},
		{"a queue with a 0 more", queue, []int{3}, true},
		{"too many in a queue", queue, []int{4}, false},
		{"fewer in a queue than lie there", queue, []int{1}, false},
		{"fewer in a queue than none", queue, []int{-1}, false},
		{"behind a queue", queue + 3, []int{1}, false},
		{"an empty queue", queue, []int{0, 0, 0, 0}, true},
		{"an empty sample", value, []int{0, 0, 0, 0}, true},
		{"a sample with a 0", value, []int{1, 0, 0, 0}, true},
		{"a queue's numbers in a sample", value, []int{2}, false},
		{"a queue's many in a sample", value, []int{3, 1, 2, 3}, false},
		{"behind a sample", value + 2, []int{1}, false},
		{"the last number", value + 3, []int{1}, false},
	} {
		l := laid()
		copy(l[x.at:], x.nums)
		w, e := flat.Lift(two(), l)
		if x.is {
			if m, f := flat.Lay(two(), w); e != api.OK || f != api.OK || !slices.Equal(l, m) {
				t.Errorf("%s: %v %d, laid %v %d, was %v", x.name, w, e, m, f, l)
			}
		} else if e != api.ErrForm || !isNothing(w) {
			t.Errorf("%s: %v %d", x.name, w, e)
		}
	}
}

// K1, P1: rows that are too short or too long.
func TestWrongLong(t *testing.T) {
	for k := range 73 {
		if w, e := flat.Lift(two(), laid()[:k]); e != api.ErrForm || !isNothing(w) {
			t.Errorf("%d numbers: %v %d", k, w, e)
		}
	}
	for _, more := range []int{1, 3, 4, 32, 1 << 16} {
		if w, e := flat.Lift(two(), append(laid(), make([]int, more)...)); e != api.ErrForm || !isNothing(w) {
			t.Errorf("%d more: %v %d", more, w, e)
		}
	}
	for name, l := range map[string][]int{"nil": nil, "empty": {}, "a relay's": make([]int, 137), "the least's": make([]int, 33)} {
		if w, e := flat.Lift(two(), l); e != api.ErrForm || !isNothing(w) {
			t.Errorf("%s: %v %d", name, w, e)
		}
	}
}

// wrongs are systems that are not right, with conf.Check's error.
func wrongs() map[api.Errno]api.System {
	many, kind, out, form := relay(), relay(), relay(), relay()
	many.Slots = nil
	kind.Chans[1].Kind = 3
	out.Slots[0].Ticks = 9
	form.Parts[3].Code[0] = api.Instr{Op: api.Put}
	return map[api.Errno]api.System{api.ErrMany: many, api.ErrKind: kind, api.ErrRange: out, api.ErrForm: form}
}

// K1, K2, P1: conf.Check's errors come first of all calls, with nothing else.
func TestSystemErrors(t *testing.T) {
	right, _ := kern.Begin(relay())
	for e, s := range wrongs() {
		if f := conf.Check(s); f != e {
			t.Fatalf("conf.Check tells %d, want %d", f, e)
		}
		for _, w := range []api.World{right, {}, {Tick: -1}} {
			if l, f := flat.Lay(s, w); f != e || len(l) != 0 {
				t.Errorf("Lay: %v %d, want %d", l, f, e)
			}
		}
		for _, l := range [][]int{make([]int, 137), nil, {-1}} {
			if w, f := flat.Lift(s, l); f != e || !isNothing(w) {
				t.Errorf("Lift: %v %d, want %d", w, f, e)
			}
		}
		for _, part := range []int{0, 3, 4, -1, math.MaxInt} {
			if l, f := flat.Own(s, part); f != e || len(l) != 0 {
				t.Errorf("Own %d: %v %d, want %d", part, l, f, e)
			}
		}
	}
}

// owned is a row of yes and no from how many there are of each, by turns, yes first.
func owned(many ...int) []bool {
	var l []bool
	for k, n := range many {
		l = append(l, slices.Repeat([]bool{k%2 == 0}, n)...)
	}
	return l
}

// K2: Tick, its cell, and the lines of its channels.
func TestOwn(t *testing.T) {
	ring := relay()
	ring.Parts = slices.Repeat([]api.Part{{Code: []api.Instr{{Op: api.Rest}}}}, 3)
	ring.Chans = []api.Chan{{Kind: api.Sample, From: 2, To: 0}, {Kind: api.Queue, From: 1, To: 2}, {Kind: api.Sample, From: 0, To: 1}, {Kind: api.Queue, From: 2, To: 1}}
	ring.Slots = []api.Slot{{Part: 0, Ticks: 1}}
	for _, x := range []struct {
		name string
		s    api.System
		own  [][]bool
	}{
		{"a relay", relay(), [][]bool{owned(33, 96, 4, 4), owned(1, 32, 32, 64, 8), owned(1, 64, 32, 36, 4), owned(1, 96, 32, 8)}},
		{"the least", least(), [][]bool{owned(33)}},
		{"two", two(), [][]bool{owned(33, 32, 8), owned(1, 32, 40)}},
		{"three", ring, [][]bool{owned(33, 64, 4, 4, 4, 4), owned(1, 32, 32, 36, 12), owned(1, 64, 40, 4, 4)}},
	} {
		for part, want := range x.own {
			for range 2 {
				if l, e := flat.Own(x.s, part); !slices.Equal(l, want) || e != api.OK {
					t.Errorf("%s, %d: %v %d, want %v", x.name, part, l, e, want)
				}
			}
		}
	}
}

// K2, P1: a partition that is not there.
func TestOwnNone(t *testing.T) {
	for _, s := range []api.System{relay(), least(), two()} {
		for _, part := range []int{-1, len(s.Parts), len(s.Parts) + 1, math.MinInt, math.MaxInt, 1 << 32} {
			if l, e := flat.Own(s, part); len(l) != 0 || e != api.ErrNone {
				t.Errorf("%d: %v %d", part, l, e)
			}
		}
	}
}

// draw: numbers for long scripts; the same each time.
type draw uint64

func (d *draw) n(n int) int {
	*d = *d*6364136223846793005 + 1442695040888963407
	return int(uint64(*d) >> 33 % uint64(n))
}

// instr is of partition me, and right.
func (d *draw) instr(me, size int, channels []api.Chan) api.Instr {
	if k := d.n(len(channels) + 3); k < len(channels) && channels[k].From == me {
		return api.Instr{Op: api.Put, A: d.n(4), N: k}
	} else if k < len(channels) && channels[k].To == me {
		return api.Instr{Op: api.Get, A: d.n(4), B: d.n(4), N: k}
	}
	a, b := d.n(4), d.n(4)
	return []api.Instr{
		{Op: api.Set, A: a, N: d.n(12) - 2}, {Op: api.Copy, A: a, B: b}, {Op: api.Add, A: a, B: b}, {Op: api.Sub, A: a, B: b},
		{Op: api.Less, A: a, B: b}, {Op: api.Load, A: a, B: b}, {Op: api.Save, A: a, B: b}, {Op: api.Jump, N: d.n(size)},
		{Op: api.Zero, A: a, N: d.n(size)}, {Op: api.In, A: a}, {Op: api.Out, A: a}, {Op: api.In, A: a}, {Op: api.Out, A: a}, {Op: api.Rest},
	}[d.n(14)]
}

func (d *draw) system() api.System {
	n := 2 + d.n(3)
	var s api.System
	for range d.n(api.MaxChans + 1) {
		a := d.n(n)
		s.Chans = append(s.Chans, api.Chan{Kind: 1 + d.n(2), From: a, To: (a + 1 + d.n(n-1)) % n})
	}
	for me := range n {
		var p api.Part
		size := 3 + d.n(9)
		for range size {
			p.Code = append(p.Code, d.instr(me, size, s.Chans))
		}
		p.Code = append(p.Code, api.Instr{Op: api.Jump})
		for range d.n(5) {
			p.In = append(p.In, d.n(99))
		}
		s.Parts = append(s.Parts, p)
	}
	for range 1 + d.n(api.MaxSlots) {
		s.Slots = append(s.Slots, api.Slot{Part: d.n(n), Ticks: 1 + d.n(api.MaxSpan)})
	}
	return s
}

// plain lays a world in the plainest way: each number at its place, counted.
func plain(s api.System, w api.World) []int {
	l := make([]int, 1+32*len(s.Parts)+4*len(s.Chans))
	l[0] = w.Tick
	for n, c := range w.Cells {
		at := 1 + 32*n
		l[at], l[at+13], l[at+14], l[at+15] = c.At, c.Read, c.End, len(c.Out)
		copy(l[at+1:], c.Regs[:])
		copy(l[at+5:], c.Mem[:])
		copy(l[at+16:], c.Out)
	}
	for n, x := range w.Lines {
		at := 1 + 32*len(s.Parts) + 4*n
		l[at] = len(x.Vals)
		copy(l[at+1:], x.Vals)
	}
	return l
}

// owns tells K2 of a place of the row, counted.
func owns(s api.System, part, at int) bool {
	lines := 1 + 32*len(s.Parts)
	switch {
	case at == 0:
		return true
	case at < lines:
		return (at-1)/32 == part
	}
	c := s.Chans[(at-lines)/4]
	return c.From == part || c.To == part
}

// K1, K2, K3: of many systems, tick by tick: rows are as they must be, are
// lifted as they were, and a step changes nothing but what is owned by the one
// whose turn it is.
func TestSteps(t *testing.T) {
	d := draw(37)
	cells, lines := 0, 0
	for range 200 {
		s := d.system()
		var own [][]bool
		for part := range s.Parts {
			l, e := flat.Own(s, part)
			if e != api.OK {
				t.Fatalf("%d of %v: %d", part, s, e)
			}
			for at, is := range l {
				if is != owns(s, part, at) {
					t.Fatalf("%d of %v: %d is %v", part, s, at, is)
				}
			}
			own = append(own, l)
		}
		w, _ := kern.Begin(s)
		was, _ := flat.Lay(s, w)
		for tick := range 100 {
			w, _ = kern.Step(s, w)
			l, e := flat.Lay(s, w)
			if e != api.OK || !slices.Equal(l, plain(s, w)) {
				t.Fatalf("%v of %v: %v %d", w, s, l, e)
			}
			if x, e := flat.Lift(s, l); e != api.OK || !same(x, w) {
				t.Fatalf("%v of %v: lifted %v %d", w, s, x, e)
			}
			who, _ := sched.Who(s, tick)
			for at := range l {
				if l[at] == was[at] {
					continue
				}
				if len(own[who]) != len(l) || !own[who][at] {
					t.Fatalf("at %d, %d's turn, there changes %d: %v, then %v", tick, who, at, was, l)
				}
				if at > 32*len(s.Parts) {
					lines++
				} else if at > 0 {
					cells++
				}
			}
			was = l
		}
	}
	if cells < 10000 || lines < 1000 {
		t.Errorf("too little happens: %d numbers of cells, %d of lines", cells, lines)
	}
}

// right tells of a row, by its numbers alone, whether there is a right world that is laid so.
func right(s api.System, l []int) bool {
	lists := 1 + 32*len(s.Parts)
	if len(l) != lists+4*len(s.Chans) || l[0] < 0 || l[0] > 300 {
		return false
	}
	list := func(l []int, room int) bool {
		return l[0] >= 0 && l[0] <= room && !slices.ContainsFunc(l[1+l[0]:], func(n int) bool { return n != 0 })
	}
	for n, p := range s.Parts {
		c := l[1+32*n : 33+32*n]
		if c[0] < 0 || c[0] > 20 || c[13] < 0 || c[13] > len(p.In) || c[14] < 0 || c[14] > 2 || !list(c[15:], 16) {
			return false
		}
	}
	for n, c := range s.Chans {
		room := map[int]int{api.Sample: 1, api.Queue: 3}[c.Kind]
		if !list(l[lists+4*n:lists+4*n+4], room) {
			return false
		}
	}
	return true
}

// K1, P1: a row with one number changed, at each place: it is lifted and laid as it is, or there is no world.
func TestOneChanged(t *testing.T) {
	d := draw(41)
	edges := []int{0, 1, 2, 3, 4, 16, 17, 20, 21, 300, 301, -1, math.MinInt, math.MaxInt}
	lifted, not := 0, 0
	for range 40 {
		s := d.system()
		w, _ := kern.Run(s, d.n(api.MaxRun+1))
		was, _ := flat.Lay(s, w)
		for at := range was {
			l := slices.Clone(was)
			l[at] = edges[d.n(len(edges))]
			x, e := flat.Lift(s, l)
			if !right(s, l) {
				not++
				if e != api.ErrForm || !isNothing(x) {
					t.Fatalf("%v of %v: %v %d", l, s, x, e)
				}
				continue
			}
			lifted++
			if m := plain(s, x); e != api.OK || !slices.Equal(l, m) || kern.Check(s, x) != api.OK {
				t.Fatalf("%v of %v: %v %d, laid %v", l, s, x, e, m)
			}
		}
	}
	if lifted < 500 || not < 500 {
		t.Errorf("%d were lifted, %d not", lifted, not)
	}
}

// lists are all lists of numbers of a world.
func lists(w api.World) [][]int {
	var l [][]int
	for _, c := range w.Cells {
		l = append(l, c.Out)
	}
	for _, x := range w.Lines {
		l = append(l, x.Vals)
	}
	return l
}

// P2, P3: of Lay what is handed in stays, its spare room too, and the row is new memory.
func TestRowOfItsOwn(t *testing.T) {
	vals := []int{1, 2, 3, 77}
	cells := []api.Cell{{Out: vals[:3]}, {Out: vals[:1]}, {At: 77}}
	lines := []api.Line{{Vals: vals[:2]}, {Vals: vals[:1]}, {Vals: vals}}
	s, w := two(), api.World{Cells: cells[:2], Lines: lines[:2]}
	l, e := flat.Lay(s, w)
	want := plain(s, w)
	if e != api.OK || !slices.Equal(vals, []int{1, 2, 3, 77}) || cells[2].At != 77 || len(lines[2].Vals) != 4 || !reflect.DeepEqual(s, two()) {
		t.Fatalf("%d: changed: %v %v %v %v", e, vals, cells, lines, s)
	}
	clear(vals)
	clear(cells)
	if !slices.Equal(l, want) {
		t.Fatalf("a later change is seen: %v, want %v", l, want)
	}
	l, _ = flat.Lay(two(), world())
	clear(l[:cap(l)])
	if again, _ := flat.Lay(two(), world()); !slices.Equal(again, laid()) {
		t.Fatalf("a change of an answer is seen: %v", again)
	}
}

// P2, P3: of Lift the row stays, and what it has behind it; the world shares no memory with it, and none within itself.
func TestWorldOfItsOwn(t *testing.T) {
	all := append(laid(), 77, 78)
	was := slices.Clone(all)
	s := two()
	w, e := flat.Lift(s, all[:73])
	if e != api.OK || !slices.Equal(all, was) || !reflect.DeepEqual(s, two()) {
		t.Fatalf("%d: changed: %v %v", e, all, s)
	}
	clear(all)
	if !same(w, world()) {
		t.Fatalf("a later change is seen: %v, want %v", w, world())
	}
	for n, l := range lists(w) {
		for k := range l[:cap(l)] {
			l[:cap(l)][k] = 1000 + n
		}
	}
	for n, l := range lists(w) {
		if slices.ContainsFunc(l, func(v int) bool { return v != 1000+n }) {
			t.Fatalf("two lists share memory: %v", w)
		}
	}
	if slices.ContainsFunc(all, func(n int) bool { return n != 0 }) {
		t.Fatalf("the row is shared: %v", all)
	}
	if again, e := flat.Lift(two(), laid()); e != api.OK || !same(again, world()) {
		t.Fatalf("a change of an answer is seen: %v %d", again, e)
	}
}

// P2, P3: of Own the system stays, and the answer is new memory.
func TestOwnOfItsOwn(t *testing.T) {
	s := relay()
	l, e := flat.Own(s, 1)
	want := slices.Clone(l)
	if e != api.OK || !reflect.DeepEqual(s, relay()) {
		t.Fatalf("%d: changed: %v", e, s)
	}
	clear(s.Chans)
	clear(s.Parts)
	if !slices.Equal(l, want) {
		t.Fatalf("a later change is seen: %v", l)
	}
	clear(l[:cap(l)])
	if again, _ := flat.Own(relay(), 1); !slices.Equal(again, want) {
		t.Fatalf("a change of an answer is seen: %v", again)
	}
}

// P1: no call panics, whatever it is handed, and with an error there is nothing else.
func TestAnything(t *testing.T) {
	d := draw(43)
	edges := []int{0, 1, -1, 2, 3, 4, 12, 13, 16, 17, 20, 21, 300, 301, math.MinInt, math.MaxInt}
	edge := func() int { return edges[d.n(len(edges))*(d.n(3)/2)] }
	told, lifted := 0, 0
	for range 20000 {
		s := d.system()
		if d.n(4) == 0 {
			s.Parts[0].Code[0] = api.Instr{Op: edge(), A: edge(), N: edge()}
		}
		w := api.World{Tick: edge(), Cells: make([]api.Cell, len(s.Parts)+d.n(8)/7), Lines: make([]api.Line, len(s.Chans)+d.n(8)/7)}
		for k := range w.Cells {
			w.Cells[k] = api.Cell{At: edge(), Regs: [4]int{edge(), edge()}, Read: d.n(9) / 8, End: d.n(16) / 5, Out: make([]int, d.n(17))}
		}
		for k := range w.Lines {
			w.Lines[k].Vals = make([]int, d.n(9)/4)
		}
		row := make([]int, 1+32*len(s.Parts)+4*len(s.Chans)+d.n(8)/7)
		for range d.n(5) {
			row[d.n(len(row))] = edge()
		}
		l, e := flat.Lay(s, w)
		x, f := flat.Lift(s, row)
		o, g := flat.Own(s, edge())
		if e != kern.Check(s, w) || e != api.OK && len(l) > 0 || f != api.OK && !isNothing(x) || g != api.OK && len(o) > 0 {
			t.Fatalf("%v, %v of %v: %v %d, %v %d, %v %d", w, row, s, l, e, x, f, o, g)
		}
		if conf.Check(s) == api.OK && right(s, row) != (f == api.OK) {
			t.Fatalf("%v of %v: %v %d", row, s, x, f)
		}
		if e == api.OK {
			told++
		}
		if f == api.OK {
			lifted++
		}
	}
	if told < 500 || lifted < 500 {
		t.Errorf("only %d were laid, %d lifted", told, lifted)
	}
}
