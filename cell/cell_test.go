package cell_test

import (
	"math"
	"reflect"
	"slices"
	"testing"

	"lychgate/api"
	"lychgate/cell"
)

var stop = []api.Instr{{Op: api.Stop}}

// same holds two cells against each other; an empty Out may be nil or not.
func same(a, b api.Cell) bool {
	out := slices.Equal(a.Out, b.Out)
	a.Out, b.Out = nil, nil
	return out && reflect.DeepEqual(a, b)
}

// full is a right cell of which no field is zero.
func full() api.Cell {
	return api.Cell{
		At:   1,
		Regs: [api.Regs]int{10, 20, 3, -4},
		Mem:  [api.Words]int{1, 2, 3, 4, 5, 6, 7, 8},
		Read: 1,
		Out:  []int{70, 71},
	}
}

// cells has cells that are right, and not.
var cells = []struct {
	name string
	c    api.Cell
	e    api.Errno
}{
	{"zero", api.Cell{}, api.OK},
	{"full", full(), api.OK},
	{"At below 0", api.Cell{At: -1}, api.ErrForm},
	{"At MaxCode", api.Cell{At: api.MaxCode}, api.OK},
	{"At above", api.Cell{At: api.MaxCode + 1}, api.ErrForm},
	{"At least", api.Cell{At: math.MinInt64}, api.ErrForm},
	{"Read below 0", api.Cell{Read: -1}, api.ErrForm},
	{"Read MaxIn", api.Cell{Read: api.MaxIn}, api.OK},
	{"Read above", api.Cell{Read: api.MaxIn + 1}, api.ErrForm},
	{"Stopped", api.Cell{End: api.Stopped}, api.OK},
	{"Faulted", api.Cell{End: api.Faulted}, api.OK},
	{"End below", api.Cell{End: -1}, api.ErrForm},
	{"End above", api.Cell{End: 3}, api.ErrForm},
	{"Out empty", api.Cell{Out: []int{}}, api.OK},
	{"Out full", api.Cell{Out: make([]int, api.MaxOut)}, api.OK},
	{"Out too long", api.Cell{Out: make([]int, api.MaxOut+1)}, api.ErrForm},
	{"Out far too long", api.Cell{Out: make([]int, 1<<20)}, api.ErrForm},
	{"any registers and memory", api.Cell{Regs: [api.Regs]int{math.MinInt64, math.MaxInt64, -1, 99}, Mem: [api.Words]int{math.MinInt64, 7: math.MaxInt64}}, api.OK},
}

// C1; and C2, C3, P1: Step and Reply tell it, with nothing else.
func TestCheck(t *testing.T) {
	for _, x := range cells {
		if e := cell.Check(x.c); e != x.e {
			t.Errorf("%s: Check tells %d, want %d", x.name, e, x.e)
		}
		in := make([]int, api.MaxIn)
		d, w, e := cell.Step(api.Part{Code: stop, In: in}, x.c)
		if e != x.e || e != api.OK && (!same(d, api.Cell{}) || w != (api.Want{})) {
			t.Errorf("%s: Step tells %v %v %d, want %d", x.name, d, w, e, x.e)
		}
		d, e = cell.Reply(x.c, api.Want{Kind: api.Put}, api.Queue, 0, true)
		if e != x.e || e != api.OK && !same(d, api.Cell{}) {
			t.Errorf("%s: Reply tells %v %d, want %d", x.name, d, e, x.e)
		}
	}
}

// C2: errors, in their order.
func TestStepErrors(t *testing.T) {
	many := make([]int, api.MaxIn+1)
	bad := api.Cell{At: -1}
	for _, x := range []struct {
		name string
		p    api.Part
		c    api.Cell
		e    api.Errno
	}{
		{"no code", api.Part{}, api.Cell{}, api.ErrMany},
		{"too much code", api.Part{Code: slices.Repeat(stop, api.MaxCode+1)}, bad, api.ErrMany},
		{"a wrong instruction ahead of In", api.Part{Code: []api.Instr{{Op: 16}}, In: many}, bad, api.ErrKind},
		{"a wrong instruction that is not at At", api.Part{Code: []api.Instr{{Op: api.Stop}, {Op: api.Out, A: 4}}}, api.Cell{}, api.ErrRange},
		{"a wrong instruction of a cell that ended", api.Part{Code: []api.Instr{{Op: api.Stop, A: 1}}}, api.Cell{End: api.Stopped}, api.ErrForm},
		{"too much comes in, ahead of the cell", api.Part{Code: stop, In: many}, bad, api.ErrMany},
		{"too much comes in for a cell that ended", api.Part{Code: stop, In: many}, api.Cell{End: api.Faulted}, api.ErrMany},
		{"a wrong cell", api.Part{Code: stop}, bad, api.ErrForm},
		{"more read than comes in", api.Part{Code: stop}, api.Cell{Read: 1}, api.ErrForm},
		{"more read than comes in, ended", api.Part{Code: stop, In: []int{1, 2}}, api.Cell{Read: 3, End: api.Stopped}, api.ErrForm},
		{"all read", api.Part{Code: stop, In: []int{1, 2}}, api.Cell{Read: 2}, api.OK},
		{"as much as may be comes in", api.Part{Code: stop, In: make([]int, api.MaxIn)}, api.Cell{}, api.OK},
	} {
		d, w, e := cell.Step(x.p, x.c)
		if e != x.e || e != api.OK && (!same(d, api.Cell{}) || w != (api.Want{})) {
			t.Errorf("%s: %v %v %d, want %d", x.name, d, w, e, x.e)
		}
	}
}

// C2: a cell that has ended stays, and wants nothing, whatever stands at At.
func TestEndedStays(t *testing.T) {
	p := api.Part{Code: []api.Instr{{Op: api.Put}, {Op: api.Set, N: 5}}, In: []int{8}}
	for _, end := range []int{api.Stopped, api.Faulted} {
		for at := range api.MaxCode + 1 {
			c := full()
			c.End, c.At = end, at
			d, w, e := cell.Step(p, c)
			if !same(d, c) || w != (api.Want{}) || e != api.OK {
				t.Errorf("end %d at %d: %v %v %d", end, at, d, w, e)
			}
		}
	}
}

// C2: at no place of the code a cell is Faulted, and nothing else changes.
func TestNoPlace(t *testing.T) {
	for n := 1; n <= api.MaxCode; n++ {
		p := api.Part{Code: slices.Repeat([]api.Instr{{Op: api.Rest}}, n), In: []int{8}}
		for at := range api.MaxCode + 1 {
			c := full()
			c.At = at
			want := full()
			want.At = at
			if at < n {
				want.At++
			} else {
				want.End = api.Faulted
			}
			d, w, e := cell.Step(p, c)
			if !same(d, want) || w != (api.Want{}) || e != api.OK {
				t.Errorf("at %d of %d: %v %v %d", at, n, d, w, e)
			}
		}
	}
}

// does tells what an instruction at place 1 does with a full cell, which turn changes ahead of it.
type does struct {
	name string
	i    api.Instr
	turn func(c *api.Cell)
	want func(c *api.Cell, w *api.Want)
}

func (x does) try(t *testing.T) {
	t.Helper()
	p := api.Part{Code: []api.Instr{{Op: api.Rest}, x.i, {Op: api.Rest}}, In: []int{8, 9}}
	c, want, wanted := full(), full(), api.Want{}
	if x.turn != nil {
		x.turn(&c)
		x.turn(&want)
	}
	want.At = 2
	x.want(&want, &wanted)
	d, w, e := cell.Step(p, c)
	if !same(d, want) || w != wanted || e != api.OK {
		t.Errorf("%s: %v %v %d, want %v %v", x.name, d, w, e, want, wanted)
	}
}

// regs turns registers 0 and 1.
func regs(a, b int) func(*api.Cell) {
	return func(c *api.Cell) { c.Regs[0], c.Regs[1] = a, b }
}

// is wants register 0 to be n, and nothing else.
func is(n int) func(*api.Cell, *api.Want) {
	return func(c *api.Cell, _ *api.Want) { c.Regs[0] = n }
}

// C2: what is done with registers.
func TestRegisters(t *testing.T) {
	two := func(op int) api.Instr { return api.Instr{Op: op, A: 0, B: 1} }
	one := func(op int) api.Instr { return api.Instr{Op: op, A: 0, B: 0} }
	for _, x := range []does{
		{"set", api.Instr{Op: api.Set, A: 0, N: 5}, nil, is(5)},
		{"set below 0", api.Instr{Op: api.Set, A: 0, N: math.MinInt64}, nil, is(math.MinInt64)},
		{"set of the last", api.Instr{Op: api.Set, A: 3, N: 6}, nil, func(c *api.Cell, _ *api.Want) { c.Regs[3] = 6 }},
		{"copy", two(api.Copy), regs(1, 2), is(2)},
		{"copy of itself", one(api.Copy), nil, is(10)},
		{"add", two(api.Add), regs(4, 5), is(9)},
		{"add of itself", one(api.Add), regs(4, 5), is(8)},
		{"add goes round", two(api.Add), regs(math.MaxInt64, 1), is(math.MinInt64)},
		{"add goes round below", two(api.Add), regs(math.MinInt64, -1), is(math.MaxInt64)},
		{"sub", two(api.Sub), regs(4, 5), is(-1)},
		{"sub of itself", one(api.Sub), regs(4, 5), is(0)},
		{"sub goes round", two(api.Sub), regs(math.MinInt64, 1), is(math.MaxInt64)},
		{"sub goes round above", two(api.Sub), regs(0, math.MinInt64), is(math.MinInt64)},
		{"less", two(api.Less), regs(4, 5), is(1)},
		{"less of the same", two(api.Less), regs(5, 5), is(0)},
		{"less of more", two(api.Less), regs(6, 5), is(0)},
		{"less below 0", two(api.Less), regs(-6, -5), is(1)},
		{"less of the least", two(api.Less), regs(math.MinInt64, math.MaxInt64), is(1)},
		{"less of the greatest", two(api.Less), regs(math.MaxInt64, math.MinInt64), is(0)},
		{"less of itself", one(api.Less), nil, is(0)},
		{"rest", api.Instr{Op: api.Rest}, nil, func(*api.Cell, *api.Want) {}},
	} {
		x.try(t)
	}
}

// C2: memory from 0 to Words - 1; elsewhere Faulted, and nothing else changes.
func TestMemory(t *testing.T) {
	load := api.Instr{Op: api.Load, A: 0, B: 1}
	save := api.Instr{Op: api.Save, A: 0, B: 1}
	for k := range api.Words {
		does{"load", load, regs(50, k), is(k + 1)}.try(t)
		does{"save", save, regs(50, k), func(c *api.Cell, _ *api.Want) { c.Mem[k] = 50 }}.try(t)
	}
	fault := func(c *api.Cell, _ *api.Want) { c.At, c.End = 1, api.Faulted }
	for _, k := range []int{-1, api.Words, math.MinInt64, math.MaxInt64, 1 << 32, 1<<61 + 1} {
		does{"load nowhere", load, regs(50, k), fault}.try(t)
		does{"save nowhere", save, regs(50, k), fault}.try(t)
	}
	does{"load by itself", api.Instr{Op: api.Load}, regs(7, 0), is(8)}.try(t)
	does{"save by itself", api.Instr{Op: api.Save}, regs(7, 0), func(c *api.Cell, _ *api.Want) { c.Mem[7] = 7 }}.try(t)
}

// C2: where At goes.
func TestPlaces(t *testing.T) {
	at := func(n int) func(*api.Cell, *api.Want) { return func(c *api.Cell, _ *api.Want) { c.At = n } }
	for _, n := range []int{0, 1, 2, 3, api.MaxCode - 1} {
		does{"jump", api.Instr{Op: api.Jump, N: n}, nil, at(n)}.try(t)
		does{"zero of 0", api.Instr{Op: api.Zero, A: 0, N: n}, regs(0, 1), at(n)}.try(t)
		does{"zero of 1", api.Instr{Op: api.Zero, A: 0, N: n}, regs(1, 0), at(2)}.try(t)
		does{"zero of -1", api.Instr{Op: api.Zero, A: 0, N: n}, regs(-1, 0), at(2)}.try(t)
	}
	does{"stop", api.Instr{Op: api.Stop}, nil, func(c *api.Cell, _ *api.Want) { c.At, c.End = 1, api.Stopped }}.try(t)
}

// C2: the last place of the longest code goes on to MaxCode, and faults there.
func TestLastPlace(t *testing.T) {
	p := api.Part{Code: slices.Repeat([]api.Instr{{Op: api.Rest}}, api.MaxCode)}
	c, _, e := cell.Step(p, api.Cell{At: api.MaxCode - 1})
	if e != api.OK || !same(c, api.Cell{At: api.MaxCode}) {
		t.Fatalf("%v %d", c, e)
	}
	c, _, e = cell.Step(p, c)
	if e != api.OK || !same(c, api.Cell{At: api.MaxCode, End: api.Faulted}) {
		t.Fatalf("%v %d", c, e)
	}
}

// C2: what comes in, and what is told.
func TestInOut(t *testing.T) {
	in := api.Instr{Op: api.In, A: 0}
	out := api.Instr{Op: api.Out, A: 1}
	read := func(n int) func(*api.Cell) { return func(c *api.Cell) { c.Read = n } }
	told := func(n int) func(*api.Cell) { return func(c *api.Cell) { c.Out = make([]int, n) } }
	tells := func(c *api.Cell, _ *api.Want) { c.Out = append(c.Out, 20) }
	for _, x := range []does{
		{"in, the first", in, read(0), func(c *api.Cell, _ *api.Want) { c.Regs[0], c.Read = 8, 1 }},
		{"in, the last", in, read(1), func(c *api.Cell, _ *api.Want) { c.Regs[0], c.Read = 9, 2 }},
		{"in, none", in, read(2), is(0)},
		{"out, the first", out, told(0), tells},
		{"out, more", out, nil, tells},
		{"out, the last", out, told(api.MaxOut - 1), tells},
		{"out, no room", out, told(api.MaxOut), func(*api.Cell, *api.Want) {}},
	} {
		x.try(t)
	}
}

// C2: what is wanted of channels; nothing else changes.
func TestWants(t *testing.T) {
	for n := range api.MaxChans {
		does{"put", api.Instr{Op: api.Put, A: 3, N: n}, nil, func(_ *api.Cell, w *api.Want) {
			*w = api.Want{Kind: api.Put, Chan: n, Reg: 3, Val: -4}
		}}.try(t)
		does{"get", api.Instr{Op: api.Get, A: 1, B: 2, N: n}, nil, func(_ *api.Cell, w *api.Want) {
			*w = api.Want{Kind: api.Get, Chan: n, Reg: 1, Flag: 2}
		}}.try(t)
	}
}

// C3: what comes of a want.
func TestReply(t *testing.T) {
	put := api.Want{Kind: api.Put, Chan: 2, Reg: 1, Val: 20}
	get := api.Want{Kind: api.Get, Chan: 2, Reg: 1, Flag: 3}
	for _, x := range []struct {
		name string
		w    api.Want
		kind int
		is   bool
		regs [api.Regs]int
	}{
		{"put by a queue, taken", put, api.Queue, true, [4]int{10, 1, 3, -4}},
		{"put by a queue, full", put, api.Queue, false, [4]int{10, 0, 3, -4}},
		{"put by a sample", put, api.Sample, true, [4]int{10, 20, 3, -4}},
		{"put by a sample, not", put, api.Sample, false, [4]int{10, 20, 3, -4}},
		{"get by a queue", get, api.Queue, true, [4]int{10, 99, 3, 1}},
		{"get by a queue, none", get, api.Queue, false, [4]int{10, 20, 3, 0}},
		{"get by a sample", get, api.Sample, true, [4]int{10, 99, 3, 1}},
		{"get by a sample, none", get, api.Sample, false, [4]int{10, 20, 3, 0}},
		{"get, the flag comes last", api.Want{Kind: api.Get, Reg: 2, Flag: 2}, api.Queue, true, [4]int{10, 20, 1, -4}},
		{"get none, the flag comes last", api.Want{Kind: api.Get, Reg: 2, Flag: 2}, api.Queue, false, [4]int{10, 20, 0, -4}},
		{"a channel that is not is not asked of", api.Want{Kind: api.Get, Chan: -7, Reg: 0, Flag: 3}, api.Sample, true, [4]int{99, 20, 3, 1}},
	} {
		for _, end := range []int{api.Runs, api.Stopped, api.Faulted} {
			c, want := full(), full()
			c.End, want.End = end, end
			want.Regs = x.regs
			d, e := cell.Reply(c, x.w, x.kind, 99, x.is)
			if !same(d, want) || e != api.OK {
				t.Errorf("%s: %v %d, want %v", x.name, d, e, want)
			}
		}
	}
}

// C3, P1: errors, in their order, and nothing else.
func TestReplyErrors(t *testing.T) {
	bad := api.Cell{Read: -1}
	for _, x := range []struct {
		name string
		c    api.Cell
		w    api.Want
		kind int
		e    api.Errno
	}{
		{"the cell ahead of all", bad, api.Want{Kind: 0, Reg: 4}, 0, api.ErrForm},
		{"a want of nothing", full(), api.Want{}, api.Queue, api.ErrKind},
		{"a want of another kind", full(), api.Want{Kind: api.Out}, api.Queue, api.ErrKind},
		{"a want above Get", full(), api.Want{Kind: api.Rest}, api.Queue, api.ErrKind},
		{"a want below 0", full(), api.Want{Kind: -api.Put}, api.Sample, api.ErrKind},
		{"a want's kind ahead of its registers", full(), api.Want{Kind: 1, Reg: 4}, api.Queue, api.ErrKind},
		{"no channel's kind", full(), api.Want{Kind: api.Put}, 0, api.ErrKind},
		{"no channel's kind above", full(), api.Want{Kind: api.Get}, 3, api.ErrKind},
		{"no channel's kind below", full(), api.Want{Kind: api.Get, Flag: -1}, -1, api.ErrKind},
		{"Reg of Get", full(), api.Want{Kind: api.Get, Reg: 4}, api.Queue, api.ErrRange},
		{"Reg of Get below 0", full(), api.Want{Kind: api.Get, Reg: -1}, api.Queue, api.ErrRange},
		{"Flag of Get", full(), api.Want{Kind: api.Get, Flag: 4}, api.Sample, api.ErrRange},
		{"Flag of Get below 0", full(), api.Want{Kind: api.Get, Flag: -1}, api.Sample, api.ErrRange},
		{"Reg of Put", full(), api.Want{Kind: api.Put, Reg: 4}, api.Queue, api.ErrRange},
		{"Reg of Put by a sample", full(), api.Want{Kind: api.Put, Reg: -1}, api.Sample, api.ErrRange},
		{"Flag of Put", full(), api.Want{Kind: api.Put, Flag: 4}, api.Sample, api.ErrRange},
	} {
		for _, is := range []bool{false, true} {
			if d, e := cell.Reply(x.c, x.w, x.kind, 7, is); !same(d, api.Cell{}) || e != x.e {
				t.Errorf("%s: %v %d, want %d", x.name, d, e, x.e)
			}
		}
	}
}

// The document's third example: a relay's first step wants Get, and the reply 7 lies in register 0.
func TestRelay(t *testing.T) {
	p := api.Part{Code: []api.Instr{
		{Op: api.Get, A: 0, B: 1, N: 0},
		{Op: api.Zero, A: 1, N: 0},
		{Op: api.Out, A: 0},
		{Op: api.Put, A: 0, N: 1},
		{Op: api.Jump, N: 0},
	}}
	c, w, e := cell.Step(p, api.Cell{})
	if w != (api.Want{Kind: api.Get, Chan: 0, Reg: 0, Flag: 1}) || e != api.OK {
		t.Fatalf("wants %v, %d", w, e)
	}
	c, e = cell.Reply(c, w, api.Queue, 7, true)
	if c.Regs != [api.Regs]int{7, 1, 0, 0} || e != api.OK {
		t.Fatalf("%v, %d", c.Regs, e)
	}
	for range 3 {
		c, w, e = cell.Step(p, c)
	}
	if w != (api.Want{Kind: api.Put, Chan: 1, Reg: 0, Val: 7}) || e != api.OK || !slices.Equal(c.Out, []int{7}) {
		t.Fatalf("wants %v, has told %v, %d", w, c.Out, e)
	}
}

// P2: what is handed in stays, its spare room too; an answer shares no memory with it.
func TestOwnMemory(t *testing.T) {
	room := []int{1, 2, 3, 4}
	program := []api.Instr{{Op: api.Out}, {Op: api.In}, {Op: api.Stop}}
	in := []int{5, 6, 7}
	c := api.Cell{Out: room[:2], Regs: [api.Regs]int{9, 9, 9, 9}}
	p := api.Part{Code: program[:2], In: in[:2]}
	d, _, _ := cell.Step(p, c)
	ended, _, _ := cell.Step(p, api.Cell{Out: room[:2], End: api.Stopped})
	r, _ := cell.Reply(c, api.Want{Kind: api.Get}, api.Queue, 1, true)
	if !slices.Equal(room, []int{1, 2, 3, 4}) || !slices.Equal(in, []int{5, 6, 7}) || program[2].Op != api.Stop || program[0].Op != api.Out {
		t.Fatalf("changed: %v %v %v", room, in, program)
	}
	for _, x := range []api.Cell{d, ended, r} {
		x.Out[0] = 77
		_ = append(x.Out, 78)
	}
	if !slices.Equal(room, []int{1, 2, 3, 4}) {
		t.Fatalf("an answer shares memory with what was handed in: %v", room)
	}
	clear(room)
	for _, x := range []api.Cell{d, ended, r} {
		if x.Out[1] != 2 {
			t.Fatalf("a later change is seen: %v", x.Out)
		}
	}
}

// draw: numbers for long scripts; the same each time.
type draw uint64

func (d *draw) n(n int) int {
	*d = *d*6364136223846793005 + 1442695040888963407
	return int(uint64(*d) >> 33 % uint64(n))
}

func (d *draw) instr() api.Instr {
	for {
		i := api.Instr{Op: 1 + d.n(api.Stop), A: d.n(4) * d.n(2), B: d.n(4) * d.n(2), N: d.n(7) * d.n(2)}
		if _, _, e := cell.Step(api.Part{Code: []api.Instr{i}}, api.Cell{}); e == api.OK {
			return i
		}
	}
}

// P1, P3, C1: over long runs no call panics, each answers the same twice, and a right cell stays right.
func TestRuns(t *testing.T) {
	d := draw(3)
	for range 400 {
		p := api.Part{In: []int{4, -5, math.MaxInt64}}
		for range 1 + d.n(api.MaxCode) {
			p.Code = append(p.Code, d.instr())
		}
		c := api.Cell{}
		for range 100 {
			next, w, e := cell.Step(p, c)
			again, v, f := cell.Step(p, c)
			if e != api.OK || cell.Check(next) != api.OK || !same(next, again) || w != v || e != f {
				t.Fatalf("%v of %v: %v %v %d, then %v %v %d", c, p, next, w, e, again, v, f)
			}
			c = next
			if w.Kind == 0 {
				continue
			}
			if c, e = cell.Reply(c, w, 1+d.n(2), d.n(9), d.n(2) == 0); e != api.OK || cell.Check(c) != api.OK {
				t.Fatalf("Reply of %v: %v %d", w, c, e)
			}
		}
	}
}

// P1: no call panics, whatever it is handed.
func TestAnything(t *testing.T) {
	d := draw(5)
	edges := []int{0, 1, -1, 2, 3, 4, 12, 13, 16, 17, 20, 21, math.MinInt64, math.MaxInt64}
	edge := func() int { return edges[d.n(len(edges))] }
	for range 20000 {
		c := api.Cell{At: edge(), Read: edge(), End: edge(), Out: make([]int, d.n(18)), Regs: [api.Regs]int{edge(), edge(), edge(), edge()}}
		p := api.Part{In: make([]int, d.n(14))}
		for range d.n(4) {
			p.Code = append(p.Code, api.Instr{Op: edge(), A: edge(), B: edge(), N: edge()})
		}
		if got, w, e := cell.Step(p, c); e != api.OK && (!same(got, api.Cell{}) || w != (api.Want{})) {
			t.Fatalf("%v of %v: %v %v %d", c, p, got, w, e)
		}
		w := api.Want{Kind: edge(), Chan: edge(), Reg: edge(), Flag: edge(), Val: edge()}
		if got, e := cell.Reply(c, w, edge(), edge(), d.n(2) == 0); e != api.OK && !same(got, api.Cell{}) {
			t.Fatalf("%v of %v: %v %d", w, c, got, e)
		}
	}
}
