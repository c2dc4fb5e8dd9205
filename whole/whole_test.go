// Package whole_test holds what the layers promise together: a test for each
// sentence of the document's section 'What the whole promises'.
package whole_test

import (
	"fmt"
	"slices"
	"strings"
	"testing"

	"lychgate/api"
	"lychgate/cell"
	"lychgate/cert"
	"lychgate/chans"
	"lychgate/code"
	"lychgate/desk"
	"lychgate/flat"
	"lychgate/flow"
	"lychgate/image"
	"lychgate/isa"
	"lychgate/view"
)

// What is shown is read as it was, and nothing else is (chapters 1, 2).
func TestShownAndRead(t *testing.T) {
	d := draw(1)
	other, none := 0, 0
	for range 3000 {
		l := d.part(d.n(4), d.channels(4)).Code
		text, e := code.Show(l)
		if r, f := code.Read(text); e != api.OK || f != api.OK || !slices.Equal(r, l) {
			t.Fatalf("%v is shown as %q %d, and read as %v %d", l, text, e, r, f)
		}
		lines := ""
		for _, i := range l {
			line, e := isa.Show(i)
			if r, f := isa.Read(line); e != api.OK || f != api.OK || r != i {
				t.Fatalf("%v is shown as %q %d, and read as %v %d", i, line, e, r, f)
			}
			lines += line + "\n"
		}
		if lines != text {
			t.Fatalf("%q, by its instructions %q", text, lines)
		}
		b := []byte(text)
		b[d.n(len(b))] = "0123456789 -\nsetaddz"[d.n(20)]
		r, e := code.Read(string(b))
		again, f := code.Show(r)
		switch {
		case e == api.OK && (f != api.OK || again != string(b)):
			t.Fatalf("%q is read as %v, which is shown as %q %d", b, r, again, f)
		case e == api.OK && string(b) != text:
			other++
		case e != api.OK:
			none++
		}
		if line, _, _ := strings.Cut(string(b), "\n"); e == api.OK {
			if i, e := isa.Read(line); e != api.OK || i != r[0] {
				t.Fatalf("%q is read as %v %d, ahead of others as %v", line, i, e, r[0])
			}
		}
	}
	if other < 100 || none < 100 {
		t.Errorf("%d were others, %d none", other, none)
	}
}

// Of a queue what was put comes out in its order (chapter 4).
func TestQueueOrder(t *testing.T) {
	d := draw(2)
	var l api.Line
	var in, out []int
	full, empty := 0, 0
	for k := range 5000 {
		many := len(in) - len(out)
		if d.n(2) == 0 {
			x, is, e := chans.Put(api.Queue, l, k)
			if e != api.OK || is != (many < api.MaxDepth) {
				t.Fatalf("%d is put to %v: %v %d", k, l, is, e)
			}
			if is {
				in = append(in, k)
			} else {
				full++
			}
			l = x
		} else {
			x, val, is, e := chans.Get(api.Queue, l)
			if e != api.OK || is != (many > 0) {
				t.Fatalf("%v: %d %v %d", l, val, is, e)
			}
			if is {
				out = append(out, val)
			} else {
				empty++
			}
			l = x
		}
		if !slices.Equal(out, in[:len(out)]) || !slices.Equal(l.Vals, in[len(out):]) {
			t.Fatalf("%v lies there, %v was put, %v came out", l, in, out)
		}
	}
	if len(out) < 1000 || full < 100 || empty < 100 {
		t.Errorf("%d came out, %d times full, %d empty", len(out), full, empty)
	}
}

// Whose turn it is hangs on nothing that happens (chapters 6, 7).
func TestTurns(t *testing.T) {
	d := draw(3)
	moved, stayed := 0, 0
	for range 60 {
		s := d.system()
		w := begin(t, s)
		for tick := range api.MaxRun {
			who := who(t, s, tick)
			next := step(t, s, w)
			for n, was := range w.Cells {
				want := was
				if n == who {
					want = stepped(t, s, w, n)
				}
				if next.Tick != tick+1 || !sameCell(next.Cells[n], want) {
					t.Fatalf("tick %d is %d's: %d is %v, was %v", tick, who, n, next.Cells[n], was)
				}
			}
			if sameCell(next.Cells[who], w.Cells[who]) {
				stayed++
			} else {
				moved++
			}
			w = next
		}
		for me := range s.Parts {
			countTurns(t, s, d.others(t, s, func(n int) bool { return n != me }), me)
		}
	}
	if moved < 1000 || stayed < 100 {
		t.Errorf("%d steps were done, %d were none", moved, stayed)
	}
}

// countTurns holds what a partition counts while others are in the others'
// places against whose turn it is in s.
func countTurns(t *testing.T, s, others api.System, me int) {
	t.Helper()
	counts := api.Part{Code: []api.Instr{{Op: api.Set, A: 1, N: 1}, {Op: api.Add, A: 0, B: 1}, {Op: api.Jump, N: 1}}}
	x := other(t, others, me, counts)
	w := begin(t, x)
	turns := 0
	for tick := range api.MaxRun {
		if who(t, s, tick) == me {
			turns++
		}
		if who(t, s, tick) != who(t, x, tick) {
			t.Fatalf("tick %d is %d's, or %d's", tick, who(t, s, tick), who(t, x, tick))
		}
		w = step(t, x, w)
		c := w.Cells[me]
		if c.Regs[0] != turns/2 || turns > 0 && c.At != 2-turns%2 {
			t.Fatalf("%d has had %d turns, and counts %v", me, turns, c)
		}
	}
}

// stepped is a partition's cell once it has done a step, and was answered.
func stepped(t *testing.T, s api.System, w api.World, part int) api.Cell {
	t.Helper()
	c, want, e := cell.Step(s.Parts[part], w.Cells[part])
	if e != api.OK {
		t.Fatalf("%d of %v: %d", part, w, e)
	}
	if want.Kind == 0 {
		return c
	}
	kind, line := s.Chans[want.Chan].Kind, w.Lines[want.Chan]
	var val int
	var is bool
	if want.Kind == api.Put {
		_, is, e = chans.Put(kind, line, want.Val)
	} else {
		_, val, is, e = chans.Get(kind, line)
	}
	c, f := cell.Reply(c, want, kind, val, is)
	if e != api.OK || f != api.OK {
		t.Fatalf("%v of %v: %d %d", want, w, e, f)
	}
	return c
}

// A step changes nothing but what is owned by the one whose turn it is (chapters 7, 11).
func TestOwned(t *testing.T) {
	d := draw(4)
	changed, others := 0, 0
	for range 150 {
		s := d.system()
		w := begin(t, s)
		for range api.MaxRun {
			if d.n(20) == 0 {
				w = d.lifted(t, s, w)
			}
			next := step(t, s, w)
			own, e := flat.Own(s, who(t, s, w.Tick))
			a, b := laid(t, s, w), laid(t, s, next)
			if e != api.OK || len(a) != len(b) || len(a) != len(own) {
				t.Fatalf("%d: %v, then %v, own %v", e, a, b, own)
			}
			for k := range a {
				switch {
				case a[k] != b[k] && !own[k]:
					t.Fatalf("number %d is not owned by %d: %v, then %v", k, who(t, s, w.Tick), a, b)
				case a[k] != b[k] && k > 0:
					changed++
				case !own[k]:
					others++
				}
			}
			w = next
		}
	}
	if changed < 10000 || others < 10000 {
		t.Errorf("%d numbers changed, %d were others'", changed, others)
	}
}

// lifted is the world with some of its numbers turned, if there is one.
func (d *draw) lifted(t *testing.T, s api.System, w api.World) api.World {
	l := laid(t, s, w)
	for range 3 {
		l[1+d.n(len(l)-1)] = d.n(4)
	}
	if x, e := flat.Lift(s, l); e == api.OK {
		return x
	}
	return w
}

func laid(t *testing.T, s api.System, w api.World) []int {
	t.Helper()
	l, e := flat.Lay(s, w)
	if x, f := flat.Lift(s, l); e != api.OK || f != api.OK || !sameWorld(x, w) {
		t.Fatalf("%v: laid as %v %d, lifted as %v %d", w, l, e, x, f)
	}
	return l
}

// What is certified is verified; where any certificate is verified there is one (chapter 9).
func TestCertifiedAndVerified(t *testing.T) {
	d := draw(5)
	certified, leaked, more := 0, 0, 0
	for range 250 {
		s := d.system()
		p := d.policy(len(s.Parts))
		c, path, is, e := cert.Certify(s, p)
		if ok, f := cert.Verify(s, p, c); e != api.OK || f != api.OK || ok != is || is != (len(path) == 0) {
			t.Fatalf("%v by %v: %v %v %v %d, verified %v %d", s.Chans, p, c, path, is, e, ok, f)
		}
		any := 0
		for x := range certs(len(s.Parts)) {
			ok, e := cert.Verify(s, p, x)
			if e != api.OK || ok && !is {
				t.Fatalf("%v by %v: none is certified, and %v is verified %d", s.Chans, p, x, e)
			}
			if ok {
				any++
			}
		}
		switch {
		case is != (any > 0):
			t.Fatalf("%v by %v: %v is certified, and %d are verified", s.Chans, p, c, any)
		case is:
			certified++
			more += any - 1
		default:
			leaked++
		}
	}
	if certified < 50 || leaked < 50 || more < 50 {
		t.Errorf("%d certified, %d leaked, %d more verified", certified, leaked, more)
	}
}

// certs is all certificates of sets that rise, and have of each partition itself.
func certs(parts int) func(yield func(api.Cert) bool) {
	return func(yield func(api.Cert) bool) {
		for bits := range 1 << (parts * parts) {
			c := api.Cert{}
			for me := range parts {
				var set []int
				for n := range parts {
					if bits>>(me*parts+n)&1 == 1 {
						set = append(set, n)
					}
				}
				if !slices.Contains(set, me) {
					break
				}
				c.Sets = append(c.Sets, set)
			}
			if len(c.Sets) == parts && !yield(c) {
				return
			}
		}
	}
}

// What a partition sees hangs on nothing but those that reach it (chapter 10).
func TestSees(t *testing.T) {
	d := draw(6)
	replaced, ticks := 0, 0
	for range 120 {
		s := d.system()
		reach, e := flow.Reach(s)
		if e != api.OK {
			t.Fatalf("%v: %d", s, e)
		}
		for me := range s.Parts {
			purged, e := view.Purge(s, me)
			if e != api.OK {
				t.Fatalf("%d of %v: %d", me, s, e)
			}
			others := d.others(t, s, func(n int) bool { return !reach[n][me] })
			for n := range s.Parts {
				if !reach[n][me] {
					replaced++
				}
			}
			w, x, y := begin(t, s), begin(t, purged), begin(t, others)
			for range api.MaxRun {
				w, x, y = step(t, s, w), step(t, purged, x), step(t, others, y)
				was := sees(t, s, w, me)
				if v, u := sees(t, purged, x, me), sees(t, others, y, me); v != was || u != was {
					t.Fatalf("%d of %v sees at %d\n%s, purged\n%s, of others\n%s", me, s, w.Tick, was, v, u)
				}
				if !sameWorld(w, x) && !sameWorld(w, y) {
					ticks++
				}
			}
		}
	}
	if replaced < 100 || ticks < 10000 {
		t.Errorf("%d were replaced, which had a say elsewhere at %d ticks", replaced, ticks)
	}
}

// seen is how often something was as it must be, so that a test is not one of nothing.
type seen struct{ verified, same, told, elsewhere int }

// If a certificate is verified, another one in the place of one that may not
// have a say changes nothing (chapters 9, 10, 13).
func TestNoSay(t *testing.T) {
	d := draw(7)
	var n seen
	for range 400 {
		s := d.system()
		p := d.policy(len(s.Parts))
		c, _, _, e := cert.Certify(s, p)
		ok, f := cert.Verify(s, p, c)
		if e != api.OK || f != api.OK {
			t.Fatalf("%v by %v: %d %d", s, p, e, f)
		}
		if !ok {
			continue
		}
		n.verified++
		k := d.n(len(s.Parts))
		x := other(t, s, k, d.part(k, s.Chans))
		if ok, e := cert.Verify(x, p, c); !ok || e != api.OK {
			t.Fatalf("%v is no certificate with another %d any more: %d", c, k, e)
		}
		n.noSay(t, s, x, p, k)
	}
	if n.verified < 50 || n.same < 1000 || n.told < 300 || n.elsewhere < 100 {
		t.Errorf("too little happens: %+v", n)
	}
}

// noSay holds s against the same with another k: by what the partitions in
// which k may have no say see, and by what the desk tells of them.
func (n *seen) noSay(t *testing.T, s, x api.System, p api.Policy, k int) {
	t.Helper()
	w, y := begin(t, s), begin(t, x)
	for w.Tick < api.MaxRun {
		w, y = far(t, s, w, 15), far(t, x, y, 15)
		a, b := judged(t, s, p, w.Tick), judged(t, x, p, w.Tick)
		if a[0] != "sound" || b[0] != "sound" || len(a) != len(b) {
			t.Fatalf("%v by %v is verified, and judged %q, with another one %q", s, p, a, b)
		}
		for me := range s.Parts {
			if k == me || slices.Contains(p.May, api.Edge{From: k, To: me}) {
				if a[1+me] != b[1+me] {
					n.elsewhere++
				}
				continue
			}
			if v, u := sees(t, s, w, me), sees(t, x, y, me); v != u || a[1+me] != b[1+me] {
				t.Fatalf("%d has a say in %d at %d of %v by %v: %s %q, then %s %q", k, me, w.Tick, s, p, v, a[1+me], u, b[1+me])
			}
			n.same++
			if strings.Contains(a[1+me], " ") {
				n.told++
			}
		}
	}
}

// judged is the lines of the desk, of a system as bytes and a policy as text.
func judged(t *testing.T, s api.System, p api.Policy, ticks int) []string {
	t.Helper()
	b, e := image.Write(s)
	var rules []string
	for _, e := range p.May {
		rules = append(rules, fmt.Sprintf("%d>%d", e.From, e.To))
	}
	text, f := desk.Judge(b, strings.Join(rules, " "), ticks)
	if e != api.OK || f != api.OK {
		t.Fatalf("%v by %v: %d %d", s, rules, e, f)
	}
	return strings.Split(text, "\n")
}
