package desk_test

import (
	"fmt"
	"math"
	"slices"
	"strings"
	"testing"

	"lychgate/api"
	"lychgate/cert"
	"lychgate/desk"
	"lychgate/image"
	"lychgate/kern"
)

// relay: 0 puts what comes in to 1 by a queue, 1 to 2 by a sample; 3 is for itself.
func relay() api.System {
	return api.System{
		Parts: []api.Part{
			{Code: []api.Instr{{Op: api.In}, {Op: api.Put}, {Op: api.Jump}}, In: []int{6, 7, 8, 9, 10}},
			{Code: []api.Instr{{Op: api.Get, A: 0, B: 1}, {Op: api.Zero, A: 1}, {Op: api.Out}, {Op: api.Put, N: 1}, {Op: api.Jump}}},
			{Code: []api.Instr{{Op: api.Get, B: 1, N: 1}, {Op: api.Zero, A: 1}, {Op: api.Out}, {Op: api.Stop}}},
			{Code: []api.Instr{{Op: api.Out}, {Op: api.Set, A: 1, N: 1}, {Op: api.Add, B: 1}, {Op: api.Jump}}},
		},
		Chans: []api.Chan{{Kind: api.Queue, From: 0, To: 1}, {Kind: api.Sample, From: 1, To: 2}},
		Slots: []api.Slot{{Part: 0, Ticks: 3}, {Part: 1, Ticks: 4}, {Part: 3, Ticks: 1}, {Part: 2, Ticks: 4}},
	}
}

// fits is the policy that allows of a relay what flows in it, and no more.
const fits = "0>1 0>2 1>0 1>2"

// told has of three partitions one of each end, whose numbers are at the edges.
func told() api.System {
	return api.System{
		Parts: []api.Part{
			{Code: []api.Instr{{Op: api.In}, {Op: api.Out}, {Op: api.Jump}}, In: []int{-1, math.MinInt, 0, math.MaxInt, -10}},
			{Code: []api.Instr{{Op: api.Out, A: 3}, {Op: api.Set, N: api.Words}, {Op: api.Load, B: 0}, {Op: api.Out}}},
			{Code: []api.Instr{{Op: api.Set, A: 2, N: 5}, {Op: api.Out, A: 2}, {Op: api.Stop}}},
		},
		Slots: []api.Slot{{Part: 0, Ticks: 2}, {Part: 1, Ticks: 1}, {Part: 2, Ticks: 1}},
	}
}

func written(t *testing.T, s api.System) string {
	t.Helper()
	b, e := image.Write(s)
	if e != api.OK {
		t.Fatalf("%v: %d", s, e)
	}
	return b
}

// text is a policy as M1 says it.
func text(p api.Policy) string {
	var l []string
	for _, e := range p.May {
		l = append(l, fmt.Sprintf("%d>%d", e.From, e.To))
	}
	return strings.Join(l, " ")
}

// M1: every policy of edges that rise is read from its text.
func TestAllRules(t *testing.T) {
	for set := range 1 << 16 {
		var p api.Policy
		for k := range 16 {
			if set>>k&1 == 1 {
				p.May = append(p.May, api.Edge{From: k / 4, To: k % 4})
			}
		}
		if r, e := desk.Rules(text(p)); !slices.Equal(r.May, p.May) || e != api.OK {
			t.Fatalf("%q: %v %d, want %v", text(p), r, e, p)
		}
	}
}

// M1, P1: of all short texts of a few letters none is read but those of policies.
func TestAllTexts(t *testing.T) {
	right := map[string]api.Policy{"": {}}
	for a := range 16 {
		one := api.Policy{May: []api.Edge{{From: a / 4, To: a % 4}}}
		right[text(one)] = one
		for b := a + 1; b < 16; b++ {
			two := api.Policy{May: []api.Edge{{From: a / 4, To: a % 4}, {From: b / 4, To: b % 4}}}
			right[text(two)] = two
		}
	}
	letters := "013> 4-"
	texts, found := []string{""}, 0
	for len(texts[0]) <= 7 {
		var longer []string
		for _, s := range texts {
			p, is := right[s]
			r, e := desk.Rules(s)
			if is != (e == api.OK) || !is && e != api.ErrForm || !slices.Equal(r.May, p.May) {
				t.Fatalf("%q: %v %d, want %v", s, r, e, p)
			}
			if is {
				found++
			}
			for k := range letters[:min(7, 12-len(s))] {
				longer = append(longer, s+letters[k:k+1])
			}
		}
		texts = longer
	}
	if found != 1+9+36 {
		t.Errorf("%d were read", found)
	}
}

// M1, P1: rules, right and wrong.
func TestRules(t *testing.T) {
	all := "0>0 0>1 0>2 0>3 1>0 1>1 1>2 1>3 2>0 2>1 2>2 2>3 3>0 3>1 3>2 3>3"
	for _, s := range []string{"", "0>1", "3>2", "0>0", "3>3", fits, all, "0>3 1>0", "0>1 3>0"} {
		for range 2 {
			if p, e := desk.Rules(s); text(p) != s || e != api.OK {
				t.Errorf("%q: %v %d", s, p, e)
			}
		}
	}
	for _, s := range []string{
		" ", "  ", "\n", "0>1 ", " 0>1", "0>1  1>0", "0>1\n", "0>1\t1>0", "0>1\n1>0", "0>1,1>0", "0>11>0", "0>1\x00", "\x00",
		"0", ">", "0>", ">1", "01", "0<1", "0 1", "0 > 1", "0> 1", "0 >1", "0>>1", "0>1>2", "0>1>", ">0>1", "0-1", "0->1", "a>b",
		"00>1", "0>01", "0>00", "+0>1", "0>+1", "-0>1", "0>-0", "0>-1", "-1>0", "0x0>1", "0>0b1", "0_>1", "0>1_0", "0>1.0", "0>1e0", "０>１", "0>\xff",
		"0>4", "4>0", "0>10", "10>0", "0>03", "3>33", "0>9223372036854775807", "0>9223372036854775808", "0>18446744073709551617", "18446744073709551616>1", "0>4294967297",
		"1>0 0>1", "1>0 0>2", "0>2 0>1", "0>1 0>1", "0>0 0>0", "0>1 0>2 0>2", "0>1 1>0 0>2", "3>3 0>0", fits + " 0>3", all + " 3>3", all + " 0>0", all + " 4>0", all + " ",
		strings.Repeat("0>1 ", 1<<16), strings.Repeat("0", 1<<20) + ">1", "0>" + strings.Repeat("1", 1<<20), strings.Repeat(" ", 1<<20), strings.Repeat(">", 1<<20),
	} {
		if p, e := desk.Rules(s); len(p.May) != 0 || e != api.ErrForm {
			t.Errorf("%.40q: %v %d", s, p, e)
		}
	}
}

// M2: lines, written out; the document's thirteenth example among them.
func TestJudge(t *testing.T) {
	full := told()
	full.Parts[0] = api.Part{Code: []api.Instr{{Op: api.Set, N: -7}, {Op: api.Out}, {Op: api.Out}, {Op: api.Jump, N: 1}}}
	one := api.System{Parts: []api.Part{{Code: []api.Instr{{Op: api.Stop}}}}, Slots: []api.Slot{{Ticks: 1}}}
	end := one
	end.Parts = []api.Part{{Code: []api.Instr{{Op: api.Out}}}}
	for _, x := range []struct {
		name  string
		s     api.System
		rules string
		n     int
		want  string
	}{
		{"by its policy", relay(), fits, 12, "sound\nruns\nruns 6\nstopped 6\nruns 0\n"},
		{"by more", relay(), "0>1 0>2 0>3 1>0 1>2 3>0", 12, "sound\nruns\nruns 6\nstopped 6\nruns 0\n"},
		{"no ticks", relay(), fits, 0, "sound\nruns\nruns\nruns\nruns\n"},
		{"one tick less", relay(), fits, 11, "sound\nruns\nruns 6\nruns 6\nruns 0\n"},
		{"all ticks", relay(), fits, 300, "sound\nruns\nruns 6 7 8 9 10 0 0 0 0 0 0 0 0 0 0 0\nstopped 6\nruns 0 1 2 3 4 5 6\n"},
		{"a path", relay(), "0>1 1>0 1>2", 12, "leak 0 1 2\nruns\nruns 6\nstopped 6\nruns 0\n"},
		{"an edge", relay(), "", 0, "leak 0 1\nruns\nruns\nruns\nruns\n"},
		{"an edge back", relay(), "0>1 0>2 1>2", 12, "leak 1 0\nruns\nruns 6\nstopped 6\nruns 0\n"},
		{"each end", told(), "", 24, "sound\nruns -1 -9223372036854775808 0 9223372036854775807\nfaulted 0\nstopped 5\n"},
		{"each end, by a policy that none needs", told(), "0>2 2>1", 11, "sound\nruns -1 -9223372036854775808\nfaulted 0\nruns 5\n"},
		{"as many as may be told", full, "", 300, "sound\nruns" + strings.Repeat(" -7", api.MaxOut) + "\nfaulted 0\nstopped 5\n"},
		{"one", one, "", 0, "sound\nruns\n"},
		{"one that stops", one, "", 1, "sound\nstopped\n"},
		{"one that ends", end, "", 2, "sound\nfaulted 0\n"},
	} {
		for range 2 {
			if s, e := desk.Judge(written(t, x.s), x.rules, x.n); s != x.want || e != api.OK {
				t.Errorf("%s: %q %d, want %q", x.name, s, e, x.want)
			}
		}
	}
}

// M2, P1: errors, in their order, with nothing else.
func TestErrors(t *testing.T) {
	b := written(t, relay())
	long := strings.Repeat("a", api.MaxBytes+1)
	two := written(t, api.System{Parts: told().Parts[:2], Slots: []api.Slot{{Ticks: 1}}})
	for _, x := range []struct {
		name, b, rules string
		n              int
		e              api.Errno
	}{
		{"too many bytes", long, fits, 5, api.ErrMany},
		{"too many bytes, and all else is wrong", long, "x", -1, api.ErrMany},
		{"too many bytes behind a right one", b + long, "0>0", 301, api.ErrMany},
		{"no bytes", "", fits, 5, api.ErrForm},
		{"no bytes, and too many ticks", "", "", 301, api.ErrForm},
		{"a byte less", b[:len(b)-1], fits, -1, api.ErrForm},
		{"a byte more", b + "\x00", fits, 5, api.ErrForm},
		{"as many bytes as may be", long[1:], fits, 5, api.ErrForm},
		{"no rules", b, " ", 5, api.ErrForm},
		{"no rules, and below no ticks", b, "0>1 0>1", -1, api.ErrForm},
		{"rules of none", b, "0>4", 301, api.ErrForm},
		{"to itself", b, "0>0", 5, api.ErrForm},
		{"to itself, and too many ticks", b, fits + " 3>3", 301, api.ErrForm},
		{"to one that is not", two, "0>2", 5, api.ErrForm},
		{"from one that is not, and too many ticks", two, "0>1 2>0", 301, api.ErrForm},
		{"below no ticks", b, fits, -1, api.ErrRange},
		{"too many ticks", b, fits, api.MaxRun + 1, api.ErrRange},
		{"far too many ticks of a leak", b, "", math.MaxInt, api.ErrRange},
		{"far below no ticks", two, "0>1 1>0", math.MinInt, api.ErrRange},
		{"ticks that go round", two, "", 1 << 32, api.ErrRange},
		{"the last tick", two, "", api.MaxRun, api.OK},
		{"the first tick", two, "0>1 1>0", 0, api.OK},
	} {
		for range 2 {
			if s, e := desk.Judge(x.b, x.rules, x.n); e != x.e || (e == api.OK) != (s != "") {
				t.Errorf("%s: %q %d, want %d", x.name, s, e, x.e)
			}
		}
	}
}

// draw: numbers for long scripts; the same each time.
type draw uint64

func (d *draw) n(n int) int {
	*d = *d*6364136223846793005 + 1442695040888963407
	return int(uint64(*d) >> 33 % uint64(n))
}

// instr is of partition me, and right.
func (d *draw) instr(me, size int, channels []api.Chan) api.Instr {
	if k := d.n(len(channels) + 3); k < len(channels) && channels[k].From == me {
		return api.Instr{Op: api.Put, A: d.n(4), N: k}
	} else if k < len(channels) && channels[k].To == me {
		return api.Instr{Op: api.Get, A: d.n(4), B: d.n(4), N: k}
	}
	a, b := d.n(4), d.n(4)
	return []api.Instr{
		{Op: api.Set, A: a, N: d.n(12) - 2}, {Op: api.Copy, A: a, B: b}, {Op: api.Add, A: a, B: b}, {Op: api.Sub, A: a, B: b},
		{Op: api.Less, A: a, B: b}, {Op: api.Load, A: a, B: b}, {Op: api.Save, A: a, B: b}, {Op: api.Jump, N: d.n(size)},
		{Op: api.Zero, A: a, N: d.n(size)}, {Op: api.In, A: a}, {Op: api.Out, A: a}, {Op: api.Out, A: a}, {Op: api.Out, A: a}, {Op: api.Stop},
	}[d.n(14-d.n(6)/5)]
}

// part is one that may stand in a right system as partition me.
func (d *draw) part(me int, channels []api.Chan) api.Part {
	var p api.Part
	size := 3 + d.n(9)
	for range size {
		p.Code = append(p.Code, d.instr(me, size, channels))
	}
	p.Code = append(p.Code, api.Instr{Op: api.Jump})
	for range d.n(5) {
		p.In = append(p.In, d.n(99)-30)
	}
	return p
}

func (d *draw) system() api.System {
	n := 2 + d.n(3)
	var s api.System
	for range d.n(api.MaxChans) {
		a := d.n(n)
		s.Chans = append(s.Chans, api.Chan{Kind: 1 + d.n(2), From: a, To: (a + 1 + d.n(n-1)) % n})
	}
	for me := range n {
		s.Parts = append(s.Parts, d.part(me, s.Chans))
	}
	for range 1 + d.n(api.MaxSlots) {
		s.Slots = append(s.Slots, api.Slot{Part: d.n(n), Ticks: 1 + d.n(api.MaxSpan)})
	}
	return s
}

// policy is a right one of so many partitions, of each edge with so many chances of eight.
func (d *draw) policy(parts, chances int) api.Policy {
	var p api.Policy
	for from := range parts {
		for to := range parts {
			if from != to && d.n(8) < chances {
				p.May = append(p.May, api.Edge{From: from, To: to})
			}
		}
	}
	return p
}

// plain tells M2's lines in the plainest way.
func plain(s api.System, p api.Policy, n int) string {
	_, path, is, _ := cert.Certify(s, p)
	w, _ := kern.Run(s, n)
	l := []string{"sound"}
	if !is {
		l[0] = strings.Trim(fmt.Sprint("leak ", path), " ")
	}
	for _, c := range w.Cells {
		l = append(l, strings.Trim(fmt.Sprint([]string{"runs", "stopped", "faulted"}[c.End]+" ", c.Out), " "))
	}
	all := strings.NewReplacer("[", "", "]", "").Replace(strings.Join(append(l, ""), "\n"))
	return strings.ReplaceAll(all, " \n", "\n")
}

// M2: of many systems the lines are as the document says.
func TestManyJudged(t *testing.T) {
	d := draw(13)
	seen := map[string]int{}
	for range 2000 {
		s := d.system()
		p, n := d.policy(len(s.Parts), d.n(9)), d.n(api.MaxRun+1)
		want := plain(s, p, n)
		if got, e := desk.Judge(written(t, s), text(p), n); got != want || e != api.OK {
			t.Fatalf("%v by %v after %d: %q %d, want %q", s, p, n, got, e, want)
		}
		for _, word := range strings.Fields(want) {
			seen[word]++
		}
	}
	for _, word := range []string{"sound", "leak", "runs", "stopped", "faulted", "-1", "0", "1"} {
		if seen[word] < 50 {
			t.Errorf("%s is told %d times", word, seen[word])
		}
	}
}

// M3: if it is sound, another one in the place of one that may have no say in
// a partition changes nothing that it tells; one that may does.
func TestNoSay(t *testing.T) {
	d := draw(31)
	kept, changed, free := 0, 0, 0
	for range 700 {
		s := d.system()
		p, n := d.policy(len(s.Parts), 3+d.n(6)), d.n(api.MaxRun+1)
		was, e := desk.Judge(written(t, s), text(p), n)
		if e != api.OK {
			t.Fatalf("%v by %v: %d", s, p, e)
		}
		if !strings.HasPrefix(was, "sound\n") {
			continue
		}
		for k := range s.Parts {
			other := s
			other.Parts = slices.Clone(s.Parts)
			other.Parts[k] = d.part(k, s.Chans)
			now, e := desk.Judge(written(t, other), text(p), n)
			a, b := strings.Split(was, "\n"), strings.Split(now, "\n")
			if e != api.OK || len(a) != len(b) || b[0] != "sound" {
				t.Fatalf("%v by %v: %q %d, was %q", other, p, now, e, was)
			}
			for me := range s.Parts {
				may := me == k || slices.Contains(p.May, api.Edge{From: k, To: me})
				switch {
				case !may && a[1+me] != b[1+me]:
					t.Fatalf("%d has a say in %d: %q, was %q: %v by %v", k, me, b[1+me], a[1+me], s, p)
				case !may && a[1+me] != "runs":
					kept++
				case may && k != me && a[1+me] != b[1+me]:
					changed++
				case may:
					free++
				}
			}
		}
	}
	if kept < 200 || changed < 20 || free < 200 {
		t.Errorf("too little happens: %d kept, %d changed, %d not", kept, changed, free)
	}
}

// P2, P3: an answer is the caller's, and what was asked ahead of it has no say in it.
func TestOfItsOwn(t *testing.T) {
	p, e := desk.Rules(fits)
	if e != api.OK || text(p) != fits {
		t.Fatalf("%v %d", p, e)
	}
	for k := range p.May[:cap(p.May)] {
		p.May[:cap(p.May)][k] = api.Edge{From: 9, To: 9}
	}
	if p, e := desk.Rules(fits); e != api.OK || text(p) != fits {
		t.Fatalf("a change of an answer is seen: %v %d", p, e)
	}
	b := written(t, relay())
	was, _ := desk.Judge(b, fits, 40)
	for _, x := range []string{"", "0>0", "x", "0>1"} {
		desk.Judge(b, x, 7)
		desk.Judge(b[:9], x, 300)
		desk.Rules(x)
	}
	if now, e := desk.Judge(b, fits, 40); now != was || e != api.OK {
		t.Fatalf("%q %d, was %q", now, e, was)
	}
}

// P1: no call panics, whatever it is handed, and with an error there is nothing else.
func TestAnything(t *testing.T) {
	d := draw(53)
	letters := "0123> 4-\n"
	ticks := []int{0, 1, 12, 300, 301, -1, math.MinInt, math.MaxInt}
	errs := map[api.Errno]int{}
	for range 20000 {
		s := d.system()
		b := []byte(written(t, s))
		for range d.n(2) {
			b[d.n(len(b))] = byte(d.n(256) >> d.n(8))
		}
		rules := []byte(text(d.policy(2+d.n(3), d.n(9))))
		for range d.n(8) / 6 {
			rules = append(rules, letters[d.n(len(letters))])
			rules[d.n(len(rules))] = letters[d.n(len(letters))]
		}
		n := ticks[d.n(len(ticks))*d.n(2)]
		_, e := image.Read(string(b))
		p, f := desk.Rules(string(rules))
		if f == api.OK && text(p) != string(rules) || f != api.OK && (f != api.ErrForm || len(p.May) != 0) {
			t.Fatalf("%q: %v %d", rules, p, f)
		}
		if e == api.OK {
			e = f
		}
		if e == api.OK {
			x, _ := image.Read(string(b))
			e = cert.Check(x, p)
		}
		if e == api.OK && (n < 0 || n > 300) {
			e = api.ErrRange
		}
		if j, g := desk.Judge(string(b), string(rules), n); g != e || (g == api.OK) != (j != "") {
			t.Fatalf("%x %q %d: %q %d, want %d", b, rules, n, j, g, e)
		}
		errs[e]++
	}
	if errs[api.OK] < 1000 || errs[api.ErrForm] < 1000 || errs[api.ErrRange] < 1000 {
		t.Errorf("%v", errs)
	}
}
