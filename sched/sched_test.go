package sched_test

import (
	"math"
	"slices"
	"testing"

	"lychgate/api"
	"lychgate/conf"
	"lychgate/sched"
)

// of is a system with those slots, whose partitions do nothing.
func of(parts int, slots ...api.Slot) api.System {
	s := api.System{Slots: slots}
	for range parts {
		s.Parts = append(s.Parts, api.Part{Code: []api.Instr{{Op: api.Stop}}})
	}
	return s
}

// whole goes through a frame in the plainest way: a partition for each tick.
func whole(s api.System) []int {
	var l []int
	for _, x := range s.Slots {
		for range x.Ticks {
			l = append(l, x.Part)
		}
	}
	return l
}

// systems are right ones: the document's sixth example, and edges.
var systems = []struct {
	name  string
	s     api.System
	frame int
}{
	{"the document's", of(4, api.Slot{Part: 0, Ticks: 3}, api.Slot{Part: 1, Ticks: 4}, api.Slot{Part: 3, Ticks: 1}, api.Slot{Part: 2, Ticks: 4}), 12},
	{"one tick", of(1, api.Slot{Ticks: 1}), 1},
	{"one slot of the last", of(4, api.Slot{Part: 3, Ticks: api.MaxSpan}), api.MaxSpan},
	{"a tick for each", of(3, api.Slot{Part: 2, Ticks: 1}, api.Slot{Part: 0, Ticks: 1}, api.Slot{Part: 1, Ticks: 1}), 3},
	{"two turns of one", of(2, api.Slot{Part: 1, Ticks: 2}, api.Slot{Part: 1, Ticks: 3}, api.Slot{Part: 0, Ticks: 1}, api.Slot{Part: 1, Ticks: 1}), 7},
	{"the longest", of(4, slices.Repeat([]api.Slot{{Part: 3, Ticks: api.MaxSpan}, {Part: 0, Ticks: api.MaxSpan}}, api.MaxSlots/2)...), api.MaxSlots * api.MaxSpan},
}

// F1: how many ticks there are.
func TestFrame(t *testing.T) {
	for _, x := range systems {
		for range 2 {
			if n, e := sched.Frame(x.s); n != x.frame || e != api.OK {
				t.Errorf("%s: %d %d, want %d", x.name, n, e, x.frame)
			}
		}
	}
}

// F1: whose turn it is, over some frames and far off.
func TestWho(t *testing.T) {
	for _, x := range systems {
		l := whole(x.s)
		ticks := []int{math.MaxInt, math.MaxInt - 1, math.MaxInt - x.frame, 1 << 31, 1 << 62, 1<<32 + 5}
		for tick := range 4*x.frame + 1 {
			ticks = append(ticks, tick)
		}
		for _, tick := range ticks {
			for range 2 {
				if p, e := sched.Who(x.s, tick); p != l[tick%len(l)] || e != api.OK {
					t.Errorf("%s at %d: %d %d, want %d", x.name, tick, p, e, l[tick%len(l)])
				}
			}
		}
	}
}

// The document's sixth example: tick 7 is the fourth one's.
func TestExample(t *testing.T) {
	if p, e := sched.Who(systems[0].s, 7); p != 3 || e != api.OK {
		t.Errorf("%d %d", p, e)
	}
}

// F1, P1: no tick is below 0.
func TestBelow(t *testing.T) {
	for _, x := range systems {
		for _, tick := range []int{-1, -2, -x.frame, math.MinInt} {
			if p, e := sched.Who(x.s, tick); p != 0 || e != api.ErrRange {
				t.Errorf("%s at %d: %d %d", x.name, tick, p, e)
			}
		}
	}
}

// F1, P1: conf.Check's errors come first, with nothing else.
func TestErrors(t *testing.T) {
	slot := api.Slot{Part: 1, Ticks: 2}
	puts := of(2, slot)
	puts.Parts[1].Code = []api.Instr{{Op: api.Put}}
	kind := of(2, slot)
	kind.Chans = []api.Chan{{Kind: 3, From: 1}}
	for _, x := range []struct {
		name string
		s    api.System
		e    api.Errno
	}{
		{"nothing", api.System{}, api.ErrMany},
		{"no slot", of(2), api.ErrMany},
		{"too many slots", of(2, slices.Repeat([]api.Slot{slot}, api.MaxSlots+1)...), api.ErrMany},
		{"no partition", of(0, slot), api.ErrMany},
		{"a slot of none", of(1, slot), api.ErrRange},
		{"no ticks", of(2, slot, api.Slot{}), api.ErrRange},
		{"ticks below 0", of(2, slot, api.Slot{Ticks: -2}), api.ErrRange},
		{"too many ticks", of(2, slot, api.Slot{Ticks: api.MaxSpan + 1}), api.ErrRange},
		{"a channel of no kind", kind, api.ErrKind},
		{"a Put by no channel", puts, api.ErrForm},
	} {
		if e := conf.Check(x.s); e != x.e {
			t.Fatalf("%s: conf.Check tells %d", x.name, e)
		}
		if n, e := sched.Frame(x.s); n != 0 || e != x.e {
			t.Errorf("%s: Frame tells %d %d, want %d", x.name, n, e, x.e)
		}
		for _, tick := range []int{0, 3, -1, math.MinInt, math.MaxInt} {
			if p, e := sched.Who(x.s, tick); p != 0 || e != x.e {
				t.Errorf("%s at %d: Who tells %d %d, want %d", x.name, tick, p, e, x.e)
			}
		}
	}
}

// Whose turn it is hangs on nothing that happens: not on codes, on channels, or on what comes in.
func TestNothingElse(t *testing.T) {
	s := systems[0].s
	other := of(4, s.Slots...)
	for k := range other.Parts {
		other.Parts[k] = api.Part{Code: []api.Instr{{Op: api.In}, {Op: api.Jump}}, In: []int{k, 5}}
	}
	other.Chans = []api.Chan{{Kind: api.Queue, From: 3, To: 1}}
	other.Parts[3].Code[0] = api.Instr{Op: api.Put}
	for tick := range 40 {
		p, e := sched.Who(s, tick)
		q, f := sched.Who(other, tick)
		if p != q || e != api.OK || f != api.OK {
			t.Errorf("at %d: %d %d, then %d %d", tick, p, e, q, f)
		}
	}
}

// P2: what is handed in stays, its spare room too.
func TestStays(t *testing.T) {
	room := []api.Slot{{Part: 1, Ticks: 2}, {Part: 0, Ticks: 3}, {Part: 7, Ticks: 77}}
	before := slices.Clone(room)
	s := of(2, room[:2]...)
	n, e := sched.Frame(s)
	p, f := sched.Who(s, 6)
	if n != 5 || e != api.OK || p != 1 || f != api.OK || !slices.Equal(room, before) {
		t.Errorf("%d %d, %d %d, %v", n, e, p, f, room)
	}
}
