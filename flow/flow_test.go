package flow_test

import (
	"math"
	"slices"
	"testing"

	"lychgate/api"
	"lychgate/conf"
	"lychgate/flow"
)

// of is a system of so many partitions with those channels, which nobody names.
func of(parts int, channels ...api.Chan) api.System {
	s := api.System{Chans: channels, Slots: []api.Slot{{Ticks: 1}}}
	for range parts {
		s.Parts = append(s.Parts, api.Part{Code: []api.Instr{{Op: api.Stop}}})
	}
	return s
}

func sample(from, to int) api.Chan { return api.Chan{Kind: api.Sample, From: from, To: to} }

func queue(from, to int) api.Chan { return api.Chan{Kind: api.Queue, From: from, To: to} }

// relay: the document's: by a queue from 0 to 1, by a sample from 1 to 2.
func relay() api.System { return of(4, queue(0, 1), sample(1, 2)) }

// H1: all edges, rising, none twice.
func TestEdges(t *testing.T) {
	for _, x := range []struct {
		name string
		s    api.System
		want []api.Edge
	}{
		{"a relay", relay(), []api.Edge{{From: 0, To: 1}, {From: 1, To: 0}, {From: 1, To: 2}}},
		{"one", of(1), nil},
		{"no channels", of(4), nil},
		{"a sample", of(2, sample(0, 1)), []api.Edge{{From: 0, To: 1}}},
		{"a sample back", of(2, sample(1, 0)), []api.Edge{{From: 1, To: 0}}},
		{"a queue", of(2, queue(0, 1)), []api.Edge{{From: 0, To: 1}, {From: 1, To: 0}}},
		{"a queue back", of(2, queue(1, 0)), []api.Edge{{From: 0, To: 1}, {From: 1, To: 0}}},
		{"a sample twice", of(2, sample(0, 1), sample(0, 1)), []api.Edge{{From: 0, To: 1}}},
		{"samples both ways", of(2, sample(1, 0), sample(0, 1)), []api.Edge{{From: 0, To: 1}, {From: 1, To: 0}}},
		{"a queue both ways", of(2, queue(1, 0), queue(0, 1)), []api.Edge{{From: 0, To: 1}, {From: 1, To: 0}}},
		{"a sample along a queue", of(3, queue(2, 0), sample(0, 2), sample(2, 0)), []api.Edge{{From: 0, To: 2}, {From: 2, To: 0}}},
		{"turned", of(4, sample(3, 1), sample(3, 0), sample(2, 3), sample(0, 3), sample(0, 2), sample(0, 1)),
			[]api.Edge{{From: 0, To: 1}, {From: 0, To: 2}, {From: 0, To: 3}, {From: 2, To: 3}, {From: 3, To: 0}, {From: 3, To: 1}}},
		{"as many as may be", of(4, queue(0, 1), queue(0, 2), queue(0, 3), queue(1, 2), queue(1, 3), queue(2, 3)),
			[]api.Edge{{From: 0, To: 1}, {From: 0, To: 2}, {From: 0, To: 3}, {From: 1, To: 0}, {From: 1, To: 2}, {From: 1, To: 3}, {From: 2, To: 0}, {From: 2, To: 1}, {From: 2, To: 3}, {From: 3, To: 0}, {From: 3, To: 1}, {From: 3, To: 2}}},
	} {
		for range 2 {
			if l, e := flow.Edges(x.s); !slices.Equal(l, x.want) || e != api.OK {
				t.Errorf("%s: %v %d, want %v", x.name, l, e, x.want)
			}
		}
	}
}

// H1: what codes do has no say in edges: a channel that is named has those that it had.
func TestCodes(t *testing.T) {
	s := relay()
	s.Parts[0].Code = []api.Instr{{Op: api.Put}}
	s.Parts[1].Code = []api.Instr{{Op: api.Get}, {Op: api.Put, N: 1}}
	s.Parts[3].In = []int{4}
	s.Slots = []api.Slot{{Part: 3, Ticks: 2}, {Part: 1, Ticks: 8}}
	l, e := flow.Edges(s)
	m, f := flow.Edges(relay())
	if !slices.Equal(l, m) || e != api.OK || f != api.OK {
		t.Errorf("%v %d, %v %d", l, e, m, f)
	}
}

func sameRows(a, b [][]bool) bool { return slices.EqualFunc(a, b, slices.Equal) }

// H1: who reaches whom.
func TestReach(t *testing.T) {
	const y, n = true, false
	for _, x := range []struct {
		name string
		s    api.System
		want [][]bool
	}{
		{"a relay", relay(), [][]bool{{y, y, y, n}, {y, y, y, n}, {n, n, y, n}, {n, n, n, y}}},
		{"one", of(1), [][]bool{{y}}},
		{"no channels", of(3), [][]bool{{y, n, n}, {n, y, n}, {n, n, y}}},
		{"a sample", of(2, sample(1, 0)), [][]bool{{y, n}, {y, y}}},
		{"a queue", of(2, queue(1, 0)), [][]bool{{y, y}, {y, y}}},
		{"a row of samples", of(4, sample(3, 2), sample(2, 1), sample(1, 0)), [][]bool{{y, n, n, n}, {y, y, n, n}, {y, y, y, n}, {y, y, y, y}}},
		{"a ring of samples", of(4, sample(0, 1), sample(1, 2), sample(2, 3), sample(3, 0)), [][]bool{{y, y, y, y}, {y, y, y, y}, {y, y, y, y}, {y, y, y, y}}},
		{"two rings", of(4, queue(0, 2), queue(1, 3)), [][]bool{{y, n, y, n}, {n, y, n, y}, {y, n, y, n}, {n, y, n, y}}},
		{"to one", of(4, sample(0, 3), sample(1, 3), sample(2, 3)), [][]bool{{y, n, n, y}, {n, y, n, y}, {n, n, y, y}, {n, n, n, y}}},
	} {
		for range 2 {
			if l, e := flow.Reach(x.s); !sameRows(l, x.want) || e != api.OK {
				t.Errorf("%s: %v %d, want %v", x.name, l, e, x.want)
			}
		}
	}
}

// H2: as few as may be; of several the least.
func TestPath(t *testing.T) {
	for _, x := range []struct {
		name     string
		s        api.System
		from, to int
		want     []int
	}{
		{"to itself", relay(), 3, 3, []int{3}},
		{"to itself, where there is a ring", relay(), 0, 0, []int{0}},
		{"the only one to itself", of(1), 0, 0, []int{0}},
		{"straight", relay(), 0, 1, []int{0, 1}},
		{"back by a queue", relay(), 1, 0, []int{1, 0}},
		{"by one", relay(), 0, 2, []int{0, 1, 2}},
		{"not back by a sample", relay(), 2, 0, nil},
		{"not to one for itself", relay(), 0, 3, nil},
		{"not from one for itself", relay(), 3, 0, nil},
		{"by all", of(4, sample(3, 1), sample(1, 2), sample(2, 0)), 3, 0, []int{3, 1, 2, 0}},
		{"straight rather than by less", of(3, sample(2, 0), sample(0, 1), sample(2, 1)), 2, 1, []int{2, 1}},
		{"few rather than less", of(4, sample(0, 1), sample(1, 2), sample(2, 3), sample(0, 2)), 0, 3, []int{0, 2, 3}},
		{"the less of two", of(4, sample(0, 2), sample(2, 3), sample(0, 1), sample(1, 3)), 0, 3, []int{0, 1, 3}},
		{"the less of two, downward", of(4, sample(3, 2), sample(2, 0), sample(3, 1), sample(1, 0)), 3, 0, []int{3, 1, 0}},
		{"the less of two queues", of(4, queue(0, 2), queue(2, 3), queue(3, 1), queue(1, 0)), 2, 1, []int{2, 0, 1}},
	} {
		for range 2 {
			if l, is, e := flow.Path(x.s, x.from, x.to); !slices.Equal(l, x.want) || is != (x.want != nil) || e != api.OK {
				t.Errorf("%s: %v %v %d, want %v", x.name, l, is, e, x.want)
			}
		}
	}
}

// H2, P1: no such partition.
func TestPathNone(t *testing.T) {
	for _, s := range []api.System{relay(), of(1), of(2, queue(0, 1))} {
		for _, n := range []int{-1, len(s.Parts), len(s.Parts) + 1, math.MinInt, math.MaxInt} {
			for _, ends := range [][2]int{{0, n}, {n, 0}, {n, n}} {
				if l, is, e := flow.Path(s, ends[0], ends[1]); len(l) != 0 || is || e != api.ErrNone {
					t.Errorf("%v of %d: %v %v %d", ends, len(s.Parts), l, is, e)
				}
			}
		}
	}
}

// H1, H2, P1: conf.Check's errors come first, with nothing else.
func TestErrors(t *testing.T) {
	slots, puts := relay(), relay()
	slots.Slots = nil
	puts.Parts[3].Code = []api.Instr{{Op: api.Put}}
	for _, x := range []struct {
		name string
		s    api.System
		e    api.Errno
	}{
		{"nothing", api.System{}, api.ErrMany},
		{"no slots", slots, api.ErrMany},
		{"too many channels", of(4, slices.Repeat([]api.Chan{queue(0, 1)}, api.MaxChans+1)...), api.ErrMany},
		{"no kind", of(2, api.Chan{Kind: 0, To: 1}), api.ErrKind},
		{"to itself", of(2, queue(1, 1)), api.ErrRange},
		{"to none", of(2, sample(0, 2)), api.ErrRange},
		{"from far below", of(2, sample(math.MinInt, 0)), api.ErrRange},
		{"another's channel", puts, api.ErrForm},
	} {
		if e := conf.Check(x.s); e != x.e {
			t.Fatalf("%s: conf.Check tells %d", x.name, e)
		}
		if l, e := flow.Edges(x.s); len(l) != 0 || e != x.e {
			t.Errorf("%s: Edges tells %v %d, want %d", x.name, l, e, x.e)
		}
		if l, e := flow.Reach(x.s); len(l) != 0 || e != x.e {
			t.Errorf("%s: Reach tells %v %d, want %d", x.name, l, e, x.e)
		}
		for _, ends := range [][2]int{{0, 0}, {0, 1}, {-1, 9}, {math.MinInt, math.MaxInt}} {
			if l, is, e := flow.Path(x.s, ends[0], ends[1]); len(l) != 0 || is || e != x.e {
				t.Errorf("%s: Path of %v tells %v %v %d, want %d", x.name, ends, l, is, e, x.e)
			}
		}
	}
}

// plainEdge asks all channels for an edge.
func plainEdge(s api.System, from, to int) bool {
	return slices.ContainsFunc(s.Chans, func(c api.Chan) bool {
		return c.From == from && c.To == to || c.Kind == api.Queue && c.From == to && c.To == from
	})
}

// plainPath is the first path of so many partitions behind those that it has, each as little as may be.
func plainPath(s api.System, has []int, more, to int) []int {
	last := has[len(has)-1]
	if more == 0 {
		if last == to {
			return has
		}
		return nil
	}
	for n := range s.Parts {
		if plainEdge(s, last, n) {
			if l := plainPath(s, append(slices.Clone(has), n), more-1, to); l != nil {
				return l
			}
		}
	}
	return nil
}

// all holds Edges, Reach and Path against the plainest way.
func all(t *testing.T, s api.System) {
	t.Helper()
	var edges []api.Edge
	reach, e := flow.Reach(s)
	if e != api.OK || len(reach) != len(s.Parts) {
		t.Fatalf("Reach of %v: %v %d", s.Chans, reach, e)
	}
	for from := range s.Parts {
		for to := range s.Parts {
			if plainEdge(s, from, to) {
				edges = append(edges, api.Edge{From: from, To: to})
			}
			var want []int
			for more := 0; more < len(s.Parts) && want == nil; more++ {
				want = plainPath(s, []int{from}, more, to)
			}
			l, is, e := flow.Path(s, from, to)
			if !slices.Equal(l, want) || is != (want != nil) || e != api.OK || reach[from][to] != is {
				t.Fatalf("from %d to %d by %v: %v %v %d, reach %v, want %v", from, to, s.Chans, l, is, e, reach, want)
			}
		}
	}
	if l, e := flow.Edges(s); !slices.Equal(l, edges) || e != api.OK {
		t.Fatalf("Edges of %v: %v %d, want %v", s.Chans, l, e, edges)
	}
}

// H1, H2: of all sets of channels among three partitions.
func TestAllOfThree(t *testing.T) {
	var channels []api.Chan
	for from := range 3 {
		for to := range 3 {
			if from != to {
				channels = append(channels, sample(from, to), queue(from, to))
			}
		}
	}
	for set := range 1 << len(channels) {
		var l []api.Chan
		for k, c := range channels {
			if set>>k&1 == 1 {
				l = append(l, c)
			}
		}
		if len(l) <= api.MaxChans {
			all(t, of(3, l...))
		}
	}
}

// draw: numbers for long scripts; the same each time.
type draw uint64

func (d *draw) n(n int) int {
	*d = *d*6364136223846793005 + 1442695040888963407
	return int(uint64(*d) >> 33 % uint64(n))
}

// H1, H2: of many systems of four partitions.
func TestManyOfFour(t *testing.T) {
	d := draw(17)
	for range 4000 {
		var l []api.Chan
		for range d.n(api.MaxChans + 1) {
			a := d.n(4)
			l = append(l, api.Chan{Kind: 1 + d.n(5)/4, From: a, To: (a + 1 + d.n(3)) % 4})
		}
		all(t, of(4, l...))
	}
}

// P2, P3: what is handed in stays, its spare room too; no two rows share memory; a change of an answer is not seen by a later call.
func TestOwnMemory(t *testing.T) {
	room := []api.Chan{queue(2, 1), sample(1, 0), sample(1, 0), {Kind: 77}, {Kind: 78}}
	before := slices.Clone(room)
	s := of(4, room[:3]...)
	edges, _ := flow.Edges(s)
	reach, _ := flow.Reach(s)
	path, _, _ := flow.Path(s, 2, 0)
	if !slices.Equal(room, before) {
		t.Fatalf("changed: %v", room)
	}
	for n, row := range reach {
		for k := range row[:cap(row)] {
			row[:cap(row)][k] = n == 1
		}
	}
	for n, row := range reach {
		if slices.Contains(row, n != 1) {
			t.Fatalf("two rows share memory: %v", reach)
		}
	}
	clear(edges[:cap(edges)])
	clear(path[:cap(path)])
	all(t, s)
	if !slices.Equal(room, before) {
		t.Fatalf("an answer shares memory with what was handed in: %v", room)
	}
	edges, _ = flow.Edges(s)
	clear(room)
	if !slices.Equal(edges, []api.Edge{{From: 1, To: 0}, {From: 1, To: 2}, {From: 2, To: 1}}) {
		t.Fatalf("a later change is seen: %v", edges)
	}
}
