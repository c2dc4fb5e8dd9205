package cert_test

import (
	"math"
	"slices"
	"testing"

	"lychgate/api"
	"lychgate/cert"
	"lychgate/conf"
)

// of is a system of so many partitions with those channels, which nobody names.
func of(parts int, channels ...api.Chan) api.System {
	s := api.System{Chans: channels, Slots: []api.Slot{{Ticks: 1}}}
	for range parts {
		s.Parts = append(s.Parts, api.Part{Code: []api.Instr{{Op: api.Stop}}})
	}
	return s
}

func sample(from, to int) api.Chan { return api.Chan{Kind: api.Sample, From: from, To: to} }

func queue(from, to int) api.Chan { return api.Chan{Kind: api.Queue, From: from, To: to} }

// relay: the document's: by a queue from 0 to 1, by a sample from 1 to 2.
func relay() api.System { return of(4, queue(0, 1), sample(1, 2)) }

// may is a policy of edges, each as a number of two digits: From, To.
func may(edges ...int) api.Policy {
	var p api.Policy
	for _, e := range edges {
		p.May = append(p.May, api.Edge{From: e / 10, To: e % 10})
	}
	return p
}

// fits is the policy that allows of a relay what flows in it, and no more.
func fits() api.Policy { return may(1, 2, 10, 12) }

func sameSets(a, b [][]int) bool { return slices.EqualFunc(a, b, slices.Equal) }

// nothing tells whether Certify answers an error alone, Verify too.
func nothing(t *testing.T, name string, s api.System, p api.Policy, want api.Errno) {
	t.Helper()
	if e := cert.Check(s, p); e != want {
		t.Errorf("%s: Check tells %d, want %d", name, e, want)
	}
	if c, l, is, e := cert.Certify(s, p); len(c.Sets) != 0 || len(l) != 0 || is || e != want {
		t.Errorf("%s: Certify tells %v %v %v %d, want %d", name, c, l, is, e, want)
	}
	for _, c := range []api.Cert{{}, {Sets: [][]int{{0, 1}, {0, 1}, {0, 1, 2}, {3}}}, {Sets: [][]int{{9}}}} {
		if is, e := cert.Verify(s, p, c); is || e != want {
			t.Errorf("%s: Verify tells %v %d, want %d", name, is, e, want)
		}
	}
}

// I1, P1: policies that are not right; Certify and Verify tell it, with nothing else.
func TestWrongPolicies(t *testing.T) {
	for _, x := range []struct {
		name string
		s    api.System
		p    api.Policy
	}{
		{"to itself", relay(), may(0)},
		{"the last to itself", relay(), may(33)},
		{"to none", relay(), may(4)},
		{"from none", relay(), may(40)},
		{"to below", relay(), api.Policy{May: []api.Edge{{From: 0, To: -1}}}},
		{"from below", relay(), api.Policy{May: []api.Edge{{From: -1, To: 0}}}},
		{"far above", relay(), api.Policy{May: []api.Edge{{From: 0, To: math.MaxInt}}}},
		{"far below", relay(), api.Policy{May: []api.Edge{{From: math.MinInt, To: 0}}}},
		{"twice", relay(), may(1, 1)},
		{"twice, the last ones", relay(), may(1, 2, 10, 12, 12)},
		{"sinking by From", relay(), may(10, 1)},
		{"sinking by From, rising by To", relay(), may(10, 3)},
		{"sinking by To", relay(), may(2, 1)},
		{"sinking at the end", relay(), may(1, 2, 12, 10)},
		{"a wrong one at the end", relay(), may(1, 2, 10, 12, 22)},
		{"a partition that is not, of fewer", of(2, queue(0, 1)), may(1, 2, 10)},
		{"one of none else", of(1), may(1)},
		{"very many", relay(), api.Policy{May: make([]api.Edge, 1<<16)}},
	} {
		nothing(t, x.name, x.s, x.p, api.ErrForm)
	}
}

// I1: policies that are right.
func TestRightPolicies(t *testing.T) {
	for _, x := range []struct {
		name string
		s    api.System
		p    api.Policy
	}{
		{"nothing", relay(), api.Policy{}},
		{"an empty list", relay(), api.Policy{May: []api.Edge{}}},
		{"one edge", relay(), may(32)},
		{"what fits", relay(), fits()},
		{"rising by From, sinking by To", relay(), may(3, 12, 20)},
		{"all", relay(), may(1, 2, 3, 10, 12, 13, 20, 21, 23, 30, 31, 32)},
		{"one partition", of(1), may()},
		{"edges that no channel has", of(2), may(1, 10)},
	} {
		if e := cert.Check(x.s, x.p); e != api.OK {
			t.Errorf("%s: %d", x.name, e)
		}
		if _, _, _, e := cert.Certify(x.s, x.p); e != api.OK {
			t.Errorf("%s: Certify tells %d", x.name, e)
		}
		if _, e := cert.Verify(x.s, x.p, api.Cert{}); e != api.OK {
			t.Errorf("%s: Verify tells %d", x.name, e)
		}
	}
}

// I1, P1: conf.Check's errors come first, whatever the policy is.
func TestSystemErrors(t *testing.T) {
	slots, puts := relay(), relay()
	slots.Slots = nil
	puts.Parts[3].Code = []api.Instr{{Op: api.Put}}
	for _, x := range []struct {
		name string
		s    api.System
		e    api.Errno
	}{
		{"nothing", api.System{}, api.ErrMany},
		{"no slots", slots, api.ErrMany},
		{"no kind", of(4, api.Chan{Kind: 3, To: 1}), api.ErrKind},
		{"to itself", of(4, queue(1, 1)), api.ErrRange},
		{"another's channel", puts, api.ErrForm},
	} {
		if e := conf.Check(x.s); e != x.e {
			t.Fatalf("%s: conf.Check tells %d", x.name, e)
		}
		for _, p := range []api.Policy{{}, fits(), may(0), may(10, 1)} {
			nothing(t, x.name, x.s, p, x.e)
		}
	}
}

// I2: certificates of a relay that hold, and not.
func TestVerify(t *testing.T) {
	all := may(1, 2, 3, 10, 12, 13, 20, 21, 23, 30, 31, 32)
	for _, x := range []struct {
		name string
		p    api.Policy
		sets [][]int
		is   bool
	}{
		{"those that reach", fits(), [][]int{{0, 1}, {0, 1}, {0, 1, 2}, {3}}, true},
		{"more than fits is allowed", all, [][]int{{0, 1}, {0, 1}, {0, 1, 2}, {3}}, true},
		{"more than reach", all, [][]int{{0, 1, 2, 3}, {0, 1, 3}, {0, 1, 2, 3}, {0, 1, 2, 3}}, true},

		{"none", fits(), nil, false},
		{"empty sets", fits(), [][]int{{}, {}, {}, {}}, false},
		{"a set too few", fits(), [][]int{{0, 1}, {0, 1}, {0, 1, 2}}, false},
		{"a set too many", fits(), [][]int{{0, 1}, {0, 1}, {0, 1, 2}, {3}, {}}, false},
		{"a set of none too many", fits(), [][]int{{0, 1}, {0, 1}, {0, 1, 2}, {3}, {4}}, false},
		{"sinking", fits(), [][]int{{1, 0}, {0, 1}, {0, 1, 2}, {3}}, false},
		{"one twice", fits(), [][]int{{0, 1, 1}, {0, 1}, {0, 1, 2}, {3}}, false},
		{"the last one twice", fits(), [][]int{{0, 1}, {0, 1}, {0, 1, 2}, {3, 3}}, false},
		{"a partition that is not", all, [][]int{{0, 1}, {0, 1}, {0, 1, 2}, {3, 4}}, false},
		{"a partition below 0", all, [][]int{{-1, 0, 1}, {0, 1}, {0, 1, 2}, {3}}, false},
		{"a partition far above", all, [][]int{{0, 1, math.MaxInt}, {0, 1}, {0, 1, 2}, {3}}, false},
		{"without itself", all, [][]int{{0, 1}, {0, 1}, {0, 1}, {3}}, false},
		{"an empty set", fits(), [][]int{{0, 1}, {0, 1}, {0, 1, 2}, {}}, false},
		{"others' sets", all, [][]int{{3}, {0, 1}, {0, 1, 2}, {0, 1}}, false},
		{"not closed", all, [][]int{{0}, {0, 1}, {0, 1, 2}, {3}}, false},
		{"not closed by what is closed on", all, [][]int{{0, 1}, {0, 1}, {1, 2}, {3}}, false},
		{"not closed by one that needs not be there", all, [][]int{{0, 1}, {0, 1}, {0, 1, 2}, {2, 3}}, false},
		{"themselves alone", fits(), [][]int{{0}, {1}, {2}, {3}}, false},
		{"one that may not", fits(), [][]int{{0, 1}, {0, 1}, {0, 1, 2, 3}, {3}}, false},
		{"none may", may(), [][]int{{0, 1}, {0, 1}, {0, 1, 2}, {3}}, false},
		{"one may not in the first", may(1, 2, 12), [][]int{{0, 1}, {0, 1}, {0, 1, 2}, {3}}, false},
		{"one may by another alone", may(1, 10, 12), [][]int{{0, 1}, {0, 1}, {0, 1, 2}, {3}}, false},
		{"they may the other way alone", may(1, 10, 20, 21), [][]int{{0, 1}, {0, 1}, {0, 1, 2}, {3}}, false},
	} {
		if e := cert.Check(relay(), x.p); e != api.OK {
			t.Fatalf("%s: Check tells %d", x.name, e)
		}
		for range 2 {
			if is, e := cert.Verify(relay(), x.p, api.Cert{Sets: x.sets}); is != x.is || e != api.OK {
				t.Errorf("%s: %v %d, want %v", x.name, is, e, x.is)
			}
		}
	}
	if is, e := cert.Verify(relay(), all, api.Cert{Sets: [][]int{make([]int, 1<<16), {1}, {2}, {3}}}); is || e != api.OK {
		t.Errorf("very many: %v %d", is, e)
	}
}

// I3: certificates, and paths that leak; the document's ninth example among them.
func TestCertify(t *testing.T) {
	alone := [][]int{{0}, {1}, {2}, {3}}
	for _, x := range []struct {
		name string
		s    api.System
		p    api.Policy
		sets [][]int
		path []int
	}{
		{"what fits", relay(), fits(), [][]int{{0, 1}, {0, 1}, {0, 1, 2}, {3}}, nil},
		{"without the first in the third", relay(), may(1, 10, 12), nil, []int{0, 1, 2}},
		{"more than fits", relay(), may(1, 2, 10, 12, 30, 32), [][]int{{0, 1}, {0, 1}, {0, 1, 2}, {3}}, nil},
		{"nothing is allowed", relay(), may(), nil, []int{0, 1}},
		{"the first one's first", relay(), may(2, 10, 12), nil, []int{0, 1}},
		{"back by a queue", relay(), may(1, 2, 12), nil, []int{1, 0}},
		{"the last one", relay(), may(1, 2, 10), nil, []int{1, 2}},
		{"no channels", of(4), may(), alone, nil},
		{"no channels, and all is allowed", of(4), may(1, 2, 3, 10, 12, 13, 20, 21, 23, 30, 31, 32), alone, nil},
		{"one", of(1), may(), [][]int{{0}}, nil},
		{"by from ahead of by to", of(3, sample(0, 2), sample(1, 0)), may(), nil, []int{0, 2}},
		{"by to, not by length", of(3, sample(0, 2), sample(2, 1)), may(), nil, []int{0, 2, 1}},
		{"by to, if the first may", of(3, sample(0, 2), sample(2, 1)), may(1), nil, []int{0, 2}},
		{"by from, if all of the first may", of(3, sample(0, 2), sample(2, 1)), may(1, 2), nil, []int{2, 1}},
		{"the less of two paths", of(4, sample(0, 2), sample(2, 3), sample(0, 1), sample(1, 3)), may(1, 2, 13, 23), nil, []int{0, 1, 3}},
		{"sets rise, whatever the channels' order", of(4, sample(3, 0), sample(2, 0), sample(1, 0)), may(10, 20, 30), [][]int{{0, 1, 2, 3}, {1}, {2}, {3}}, nil},
	} {
		for range 2 {
			c, l, is, e := cert.Certify(x.s, x.p)
			if !sameSets(c.Sets, x.sets) || !slices.Equal(l, x.path) || is != (x.path == nil) || e != api.OK {
				t.Errorf("%s: %v %v %v %d, want %v %v", x.name, c.Sets, l, is, e, x.sets, x.path)
			}
			if ok, e := cert.Verify(x.s, x.p, c); ok != is || e != api.OK {
				t.Errorf("%s: Verify tells %v %d of %v", x.name, ok, e, c.Sets)
			}
		}
	}
}

// draw: numbers for long scripts; the same each time.
type draw uint64

func (d *draw) n(n int) int {
	*d = *d*6364136223846793005 + 1442695040888963407
	return int(uint64(*d) >> 33 % uint64(n))
}

func (d *draw) system(parts int) api.System {
	var l []api.Chan
	for range d.n(5) {
		a := d.n(parts)
		l = append(l, api.Chan{Kind: 1 + d.n(2), From: a, To: (a + 1 + d.n(parts-1)) % parts})
	}
	return of(parts, l...)
}

// policies are all of so many partitions.
func policies(parts int) []api.Policy {
	var edges []int
	for from := range parts {
		for to := range parts {
			if from != to {
				edges = append(edges, 10*from+to)
			}
		}
	}
	var l []api.Policy
	for set := range 1 << len(edges) {
		l = append(l, may(picked(edges, set)...))
	}
	return l
}

// picked is those of l whose bits set has.
func picked(l []int, set int) []int {
	var some []int
	for k, n := range l {
		if set>>k&1 == 1 {
			some = append(some, n)
		}
	}
	return some
}

// leads tells whether there is an edge, as chapter 8 says it.
func leads(s api.System, from, to int) bool {
	return slices.ContainsFunc(s.Chans, func(c api.Chan) bool {
		return c.From == from && c.To == to || c.Kind == api.Queue && c.From == to && c.To == from
	})
}

// plain tells I2 of a set of bits of a partition, in the plainest words.
func plain(s api.System, p api.Policy, me, set int) bool {
	has := func(n int) bool { return set>>n&1 == 1 }
	holds := has(me)
	for from := range s.Parts {
		for to := range s.Parts {
			holds = holds && !(leads(s, from, to) && has(to) && !has(from))
		}
		holds = holds && !(has(from) && from != me && !slices.Contains(p.May, api.Edge{From: from, To: me}))
	}
	return holds
}

// I2, I3: with all policies and all certificates of sets of three partitions:
// what is certified is verified, and where any certificate is verified there is
// one, which has the least sets of all of them.
func TestAllOfThree(t *testing.T) {
	d := draw(23)
	certified, leaked := 0, 0
	for range 12 {
		s := d.system(3)
		for _, p := range policies(3) {
			c, path, is, e := cert.Certify(s, p)
			if e != api.OK || is != (len(path) == 0) || is != (len(c.Sets) == 3) {
				t.Fatalf("%v of %v: %v %v %v %d", p, s.Chans, c, path, is, e)
			}
			any := false
			for sets := range 1 << 9 {
				x := api.Cert{}
				want := true
				for me := range 3 {
					set := sets >> (3 * me) & 7
					x.Sets = append(x.Sets, picked([]int{0, 1, 2}, set))
					want = want && plain(s, p, me, set)
				}
				ok, e := cert.Verify(s, p, x)
				if ok != want || e != api.OK {
					t.Fatalf("%v of %v by %v: %v %d, want %v", x, s.Chans, p, ok, e, want)
				}
				any = any || ok
				if ok && is && !within(c, x) {
					t.Fatalf("%v of %v by %v is not within %v", c, s.Chans, p, x)
				}
			}
			if ok, _ := cert.Verify(s, p, c); ok != is || any != is {
				t.Fatalf("%v of %v by %v: certified %v, verified %v, any %v", c, s.Chans, p, is, ok, any)
			}
			if is {
				certified++
			} else {
				leaked++
			}
		}
	}
	if certified < 50 || leaked < 50 {
		t.Errorf("%d certified, %d leaked", certified, leaked)
	}
}

// within tells whether each set of a has no more than that of b.
func within(a, b api.Cert) bool {
	for k, set := range a.Sets {
		for _, n := range set {
			if !slices.Contains(b.Sets[k], n) {
				return false
			}
		}
	}
	return true
}

// reaches is whether something comes from one to the other in so many edges at most.
func reaches(s api.System, from, to, edges int) bool {
	if from == to {
		return true
	}
	for n := range s.Parts {
		if edges > 0 && leads(s, from, n) && reaches(s, n, to, edges-1) {
			return true
		}
	}
	return false
}

// I3: of many systems of four partitions: the sets are all that reach, or the path is of the first two that may not.
func TestManyOfFour(t *testing.T) {
	d := draw(29)
	all := policies(4)
	certified := 0
	for range 3000 {
		s, p := d.system(4), all[d.n(len(all))]
		want := make([][]int, 4)
		var leak []int
		for from := range 4 {
			for to := range 4 {
				if !reaches(s, from, to, 3) {
					continue
				}
				want[to] = append(want[to], from)
				if leak == nil && from != to && !slices.Contains(p.May, api.Edge{From: from, To: to}) {
					leak = []int{from, to}
				}
			}
		}
		c, path, is, e := cert.Certify(s, p)
		switch {
		case e != api.OK || is != (leak == nil):
			t.Fatalf("%v of %v: %v %d, want a leak of %v", p, s.Chans, is, e, leak)
		case is && (!sameSets(c.Sets, want) || len(path) != 0):
			t.Fatalf("%v of %v: %v %v, want %v", p, s.Chans, c.Sets, path, want)
		case !is && (len(c.Sets) != 0 || len(path) < 2 || path[0] != leak[0] || path[len(path)-1] != leak[1]):
			t.Fatalf("%v of %v: %v %v, want a leak of %v", p, s.Chans, c.Sets, path, leak)
		}
		for k := 1; k < len(path); k++ {
			if !leads(s, path[k-1], path[k]) {
				t.Fatalf("%v is no path of %v", path, s.Chans)
			}
		}
		if is {
			certified++
		}
	}
	if certified < 100 {
		t.Errorf("only %d were certified", certified)
	}
}

// P2, P3: what is handed in stays, its spare room too; an answer shares no memory with it, none within itself, and none with a later one.
func TestOwnMemory(t *testing.T) {
	room := append(fits().May, api.Edge{From: 77}, api.Edge{From: 78})
	set := []int{0, 1, 2, 77}
	sets := [][]int{set[:2], set[:2], set[:3], {3}, {77}}
	p, c := api.Policy{May: room[:4]}, api.Cert{Sets: sets[:4]}
	edges := slices.Clone(room)
	if is, e := cert.Verify(relay(), p, c); !is || e != api.OK {
		t.Fatalf("%v %d", is, e)
	}
	got, _, is, e := cert.Certify(relay(), p)
	want, _, _, _ := cert.Certify(relay(), p)
	if !is || e != api.OK || !slices.Equal(room, edges) || !slices.Equal(set, []int{0, 1, 2, 77}) || len(sets) != 5 || sets[4][0] != 77 {
		t.Fatalf("changed: %v %v %v", room, set, sets)
	}
	clear(room)
	if !sameSets(got.Sets, want.Sets) {
		t.Fatalf("a later change is seen: %v", got)
	}
	for n, l := range got.Sets {
		for k := range l[:cap(l)] {
			l[:cap(l)][k] = 1000 + n
		}
	}
	for n, l := range got.Sets {
		if slices.ContainsFunc(l, func(v int) bool { return v != 1000+n }) {
			t.Fatalf("two sets share memory: %v", got)
		}
	}
	if again, _, _, _ := cert.Certify(relay(), fits()); !sameSets(again.Sets, want.Sets) {
		t.Fatalf("a change of an answer is seen by a later call: %v", again)
	}
}

// P1: no call panics, whatever it is handed, and with an error there is nothing else.
func TestAnything(t *testing.T) {
	d := draw(31)
	edges := []int{0, 1, 2, 3, -1, 4, math.MinInt, math.MaxInt}
	edge := func() int { return edges[d.n(4+d.n(5))] }
	for range 20000 {
		s := d.system(4)
		if d.n(9) == 0 {
			s = api.System{Parts: s.Parts[:d.n(4)], Chans: s.Chans, Slots: s.Slots}
		}
		var p api.Policy
		for range d.n(4) {
			p.May = append(p.May, api.Edge{From: edge(), To: edge()})
		}
		var c api.Cert
		for range d.n(6) {
			c.Sets = append(c.Sets, nil)
			for range d.n(4) {
				c.Sets[len(c.Sets)-1] = append(c.Sets[len(c.Sets)-1], edge())
			}
		}
		e := cert.Check(s, p)
		x, l, is, f := cert.Certify(s, p)
		ok, g := cert.Verify(s, p, c)
		if f != e || g != e || e != api.OK && (len(x.Sets) > 0 || len(l) > 0 || is || ok) {
			t.Fatalf("%v of %v: %d, %v %v %v %d, %v %d", p, s, e, x, l, is, f, ok, g)
		}
	}
}
