package image_test

import (
	"math"
	"reflect"
	"slices"
	"strings"
	"testing"

	"lychgate/api"
	"lychgate/conf"
	"lychgate/image"
)

// relay: 0 puts what comes in to 1 by a queue, 1 to 2 by a sample; 3 is for itself.
func relay() api.System {
	return api.System{
		Parts: []api.Part{
			{Code: []api.Instr{{Op: api.In}, {Op: api.Put}, {Op: api.Jump}}, In: []int{6, 7, 8, 9, 10}},
			{Code: []api.Instr{{Op: api.Get, A: 0, B: 1}, {Op: api.Zero, A: 1}, {Op: api.Out}, {Op: api.Put, N: 1}, {Op: api.Jump}}},
			{Code: []api.Instr{{Op: api.Get, B: 1, N: 1}, {Op: api.Zero, A: 1}, {Op: api.Out}, {Op: api.Stop}}},
			{Code: []api.Instr{{Op: api.Out}, {Op: api.Set, A: 1, N: 1}, {Op: api.Add, B: 1}, {Op: api.Jump}}},
		},
		Chans: []api.Chan{{Kind: api.Queue, From: 0, To: 1}, {Kind: api.Sample, From: 1, To: 2}},
		Slots: []api.Slot{{Part: 0, Ticks: 3}, {Part: 1, Ticks: 4}, {Part: 3, Ticks: 1}, {Part: 2, Ticks: 4}},
	}
}

// brief is a relay of as few instructions as the document's examples need.
func brief() api.System {
	s := relay()
	s.Parts[0] = api.Part{Code: []api.Instr{{Op: api.In}, {Op: api.Put}, {Op: api.Stop}}, In: []int{6}}
	s.Parts[2].Code = []api.Instr{{Op: api.Get, B: 1, N: 1}, {Op: api.Out}, {Op: api.Stop}}
	s.Parts[3].Code = []api.Instr{{Op: api.Out}, {Op: api.Add}, {Op: api.Jump}}
	return s
}

// least has as few of everything as there may be, most as many.
func least() api.System {
	return api.System{Parts: []api.Part{{Code: []api.Instr{{Op: api.Stop}}}}, Slots: []api.Slot{{Ticks: 1}}}
}

func most() api.System {
	var s api.System
	for range api.MaxParts {
		s.Parts = append(s.Parts, api.Part{
			Code: slices.Repeat([]api.Instr{{Op: api.Set, A: 3, N: math.MinInt}}, api.MaxCode),
			In:   slices.Repeat([]int{math.MaxInt}, api.MaxIn),
		})
	}
	s.Chans = slices.Repeat([]api.Chan{{Kind: api.Queue, From: 3, To: 2}}, api.MaxChans)
	s.Slots = slices.Repeat([]api.Slot{{Part: 3, Ticks: api.MaxSpan}}, api.MaxSlots)
	return s
}

// some is a system whose fields are all different where they may be.
func some() api.System {
	return api.System{
		Parts: []api.Part{
			{Code: []api.Instr{{Op: api.Set, A: 2, N: 0x0102030405060708}, {Op: api.Get, A: 3, B: 1, N: 1}, {Op: api.Set, N: -2}}, In: []int{-1, math.MinInt, 258}},
			{Code: []api.Instr{{Op: api.Zero, A: 1, N: 19}}},
			{Code: []api.Instr{{Op: api.Stop}}, In: []int{math.MaxInt}},
		},
		Chans: []api.Chan{{Kind: api.Sample, From: 2, To: 1}, {Kind: api.Queue, From: 1, To: 0}},
		Slots: []api.Slot{{Part: 2, Ticks: 7}, {Part: 0, Ticks: 1}, {Part: 1, Ticks: 8}},
	}
}

// bytes is those of some, each one written out.
func bytes() string {
	return "\x03" +
		"\x03" +
		"\x01\x02\x00" + "\x01\x02\x03\x04\x05\x06\x07\x08" +
		"\x0d\x03\x01" + "\x00\x00\x00\x00\x00\x00\x00\x01" +
		"\x01\x00\x00" + "\xff\xff\xff\xff\xff\xff\xff\xfe" +
		"\x03" + "\xff\xff\xff\xff\xff\xff\xff\xff" + "\x80\x00\x00\x00\x00\x00\x00\x00" + "\x00\x00\x00\x00\x00\x00\x01\x02" +
		"\x01" + "\x09\x01\x00" + "\x00\x00\x00\x00\x00\x00\x00\x13" + "\x00" +
		"\x01" + "\x0f\x00\x00" + "\x00\x00\x00\x00\x00\x00\x00\x00" + "\x01" + "\x7f\xff\xff\xff\xff\xff\xff\xff" +
		"\x02" + "\x01\x02\x01" + "\x02\x01\x00" +
		"\x03" + "\x02\x07" + "\x00\x01" + "\x01\x08"
}

// same holds two systems against each other; an empty list may be nil or not.
func same(a, b api.System) bool {
	return slices.EqualFunc(a.Parts, b.Parts, func(p, q api.Part) bool { return slices.Equal(p.Code, q.Code) && slices.Equal(p.In, q.In) }) &&
		slices.Equal(a.Chans, b.Chans) && slices.Equal(a.Slots, b.Slots)
}

func isNothing(s api.System) bool { return same(s, api.System{}) }

// L1: each byte stands where it must, by Write and by Read.
func TestBytes(t *testing.T) {
	for range 2 {
		if b, e := image.Write(some()); b != bytes() || e != api.OK {
			t.Errorf("Write: %x %d, want %x", b, e, bytes())
		}
		if s, e := image.Read(bytes()); !same(s, some()) || e != api.OK {
			t.Errorf("Read: %v %d, want %v", s, e, some())
		}
	}
}

// L1, L2: how many bytes there are, from the fewest to the most; the document's twelfth example among them.
func TestMany(t *testing.T) {
	none := relay()
	none.Chans = []api.Chan{}
	none.Parts = []api.Part{{Code: []api.Instr{{Op: api.Rest}}, In: []int{}}}
	none.Slots = []api.Slot{{Ticks: 1}}
	for _, x := range []struct {
		name string
		s    api.System
		many int
	}{
		{"the document's", brief(), 187},
		{"a relay", relay(), 241},
		{"the least", least(), 18},
		{"the most", most(), 1305},
		{"empty lists that are not nil", none, 18},
	} {
		b, e := image.Write(x.s)
		if len(b) != x.many || e != api.OK {
			t.Errorf("%s: %d bytes %d, want %d", x.name, len(b), e, x.many)
		}
		if s, e := image.Read(b); !same(s, x.s) || e != api.OK {
			t.Errorf("%s: %v %d, want %v", x.name, s, e, x.s)
		}
	}
	if b, _ := image.Write(least()); b != "\x01\x01\x0f\x00\x00\x00\x00\x00\x00\x00\x00\x00\x00\x00\x00\x01\x00\x01" {
		t.Errorf("the least: %x", b)
	}
}

// L1, P1: Write tells conf.Check's errors, with nothing else; a number that is
// right only as far as a byte has room for it is not.
func TestWrongSystems(t *testing.T) {
	for _, x := range []struct {
		name string
		turn func(s *api.System)
		e    api.Errno
	}{
		{"nothing", func(s *api.System) { *s = api.System{} }, api.ErrMany},
		{"no slots", func(s *api.System) { s.Slots = nil }, api.ErrMany},
		{"a partition too many", func(s *api.System) { s.Parts = append(s.Parts, s.Parts[3]) }, api.ErrMany},
		{"256 and one partitions", func(s *api.System) { s.Parts = slices.Repeat(s.Parts[3:], 257) }, api.ErrMany},
		{"256 and one slots", func(s *api.System) { s.Slots = slices.Repeat(s.Slots[:1], 257) }, api.ErrMany},
		{"a channel too many", func(s *api.System) { s.Chans = slices.Repeat(s.Chans[:1], 7) }, api.ErrMany},
		{"too much comes in", func(s *api.System) { s.Parts[2].In = make([]int, 13) }, api.ErrMany},
		{"no code", func(s *api.System) { s.Parts[1].Code = nil }, api.ErrMany},
		{"too much code", func(s *api.System) { s.Parts[3].Code = slices.Repeat(s.Parts[3].Code[:1], 21) }, api.ErrMany},
		{"no operation", func(s *api.System) { s.Parts[3].Code[0].Op = 16 }, api.ErrKind},
		{"Op as a byte", func(s *api.System) { s.Parts[3].Code[0].Op += 256 }, api.ErrKind},
		{"A as a byte", func(s *api.System) { s.Parts[3].Code[0].A += 256 }, api.ErrRange},
		{"B as a byte", func(s *api.System) { s.Parts[3].Code[2].B -= 256 }, api.ErrRange},
		{"N of a jump", func(s *api.System) { s.Parts[3].Code[3].N = 20 }, api.ErrRange},
		{"N that there is not", func(s *api.System) { s.Parts[3].Code[0].N = 1 }, api.ErrForm},
		{"no kind", func(s *api.System) { s.Chans[1].Kind = 3 }, api.ErrKind},
		{"Kind as a byte", func(s *api.System) { s.Chans[1].Kind += 256 }, api.ErrKind},
		{"From as a byte", func(s *api.System) { s.Chans[1].From += 256 }, api.ErrRange},
		{"To as a byte", func(s *api.System) { s.Chans[0].To -= 256 }, api.ErrRange},
		{"Part as a byte", func(s *api.System) { s.Slots[1].Part += 256 }, api.ErrRange},
		{"Ticks as a byte", func(s *api.System) { s.Slots[1].Ticks += 256 }, api.ErrRange},
		{"another's channel", func(s *api.System) { s.Parts[3].Code[0] = api.Instr{Op: api.Put} }, api.ErrForm},
		{"the first error of two", func(s *api.System) { s.Slots[0].Ticks, s.Chans[0].Kind = 0, 0 }, api.ErrKind},
	} {
		s := relay()
		x.turn(&s)
		if b, e := image.Write(s); b != "" || e != x.e || e != conf.Check(s) {
			t.Errorf("%s: %x %d, want %d", x.name, b, e, x.e)
		}
	}
}

// Places of the bytes of some.
const (
	codes1 = 1
	instr1 = 2
	instr2 = 13
	ins1   = 35
	codes2 = 60
	chans  = 94
	slots  = 101
)

// L1, P1: bytes of which there is no right system, or one.
func TestWrongBytes(t *testing.T) {
	for _, x := range []struct {
		name string
		at   int
		put  string
		is   bool
	}{
		{"as it was", 0, "\x03", true},
		{"no partitions", 0, "\x00", false},
		{"fewer partitions", 0, "\x02", false},
		{"more partitions", 0, "\x04", false},
		{"255 partitions", 0, "\xff", false},
		{"no instructions", codes1, "\x00", false},
		{"more instructions", codes1, "\x04", false},
		{"255 instructions", codes2, "\xff", false},
		{"no operation", instr1, "\x00", false},
		{"an operation above", instr1, "\x10", false},
		{"an operation far above", instr1, "\x81", false},
		{"another operation", instr1, "\x09", false},
		{"A, a register", instr1 + 1, "\x03", true},
		{"A above", instr1 + 1, "\x04", false},
		{"A far above", instr1 + 1, "\xff", false},
		{"B that there is not", instr1 + 2, "\x01", false},
		{"any N", instr1 + 3, "\x80\x00\x00\x00\x00\x00\x00\x00", true},
		{"another any N", instr1 + 3, "\xff\xff\xff\xff\xff\xff\xff\xff", true},
		{"B of a get", instr2 + 2, "\x03", true},
		{"B of a get above", instr2 + 2, "\x04", false},
		{"a channel that does not lead there", instr2 + 10, "\x00", false},
		{"a channel that is not", instr2 + 10, "\x02", false},
		{"a channel below 0", instr2 + 3, "\xff\xff\xff\xff\xff\xff\xff\xff", false},
		{"a channel by its lowest byte", instr2 + 9, "\x01", false},
		{"a channel by its highest byte", instr2 + 3, "\x80", false},
		{"none come in", ins1, "\x00", false},
		{"more come in", ins1, "\x04", false},
		{"any come in", ins1 + 1, "\x00\x01\x02\x03\x04\x05\x06\x07", true},
		{"no channels", chans, "\x00", false},
		{"a channel less", chans, "\x01", false},
		{"a queue for a sample", chans + 1, "\x02", true},
		{"no kind", chans + 1, "\x00", false},
		{"a kind above", chans + 1, "\x03", false},
		{"from another one", chans + 2, "\x00", true},
		{"from none", chans + 2, "\x03", false},
		{"from itself", chans + 2, "\x01", false},
		{"to none", chans + 3, "\xff", false},
		{"to where no get is", chans + 6, "\x02", false},
		{"no slots", slots, "\x00", false},
		{"a slot less", slots, "\x02", false},
		{"a slot more", slots, "\x04", false},
		{"a slot of another one", slots + 1, "\x01", true},
		{"a slot of none", slots + 1, "\x03", false},
		{"no ticks", slots + 6, "\x00", false},
		{"one tick", slots + 6, "\x01", true},
		{"too many ticks", slots + 6, "\x09", false},
	} {
		b := bytes()
		b = b[:x.at] + x.put + b[x.at+len(x.put):]
		s, e := image.Read(b)
		if x.is {
			if c, f := image.Write(s); e != api.OK || f != api.OK || c != b {
				t.Errorf("%s: %v %d, written %x %d, was %x", x.name, s, e, c, f, b)
			}
		} else if e != api.ErrForm || !isNothing(s) {
			t.Errorf("%s: %v %d", x.name, s, e)
		}
	}
}

// L1, P1: counts that the bytes bear, and a system does not.
func TestWrongCounts(t *testing.T) {
	stop := "\x0f" + strings.Repeat("\x00", 10)
	part := "\x01" + stop + "\x00"
	zero := strings.Repeat("\x00", 8)
	for _, x := range []struct {
		name string
		b    string
		is   bool
	}{
		{"one partition", "\x01" + part + "\x00" + "\x01\x00\x01", true},
		{"four partitions", "\x04" + strings.Repeat(part, 4) + "\x00" + "\x01\x00\x01", true},
		{"five partitions", "\x05" + strings.Repeat(part, 5) + "\x00" + "\x01\x00\x01", false},
		{"no partitions", "\x00" + "\x00" + "\x01\x00\x01", false},
		{"no partitions and nothing else", "\x00\x00\x00", false},
		{"255 partitions", "\xff" + strings.Repeat(part, 255) + "\x00" + "\x01\x00\x01", false},
		{"20 instructions", "\x01" + "\x14" + strings.Repeat(stop, 20) + "\x00" + "\x00" + "\x01\x00\x01", true},
		{"21 instructions", "\x01" + "\x15" + strings.Repeat(stop, 21) + "\x00" + "\x00" + "\x01\x00\x01", false},
		{"no instructions", "\x01" + "\x00" + "\x00" + "\x00" + "\x01\x00\x01", false},
		{"12 come in", "\x01" + "\x01" + stop + "\x0c" + strings.Repeat(zero, 12) + "\x00" + "\x01\x00\x01", true},
		{"13 come in", "\x01" + "\x01" + stop + "\x0d" + strings.Repeat(zero, 13) + "\x00" + "\x01\x00\x01", false},
		{"6 channels", "\x02" + part + part + "\x06" + strings.Repeat("\x01\x00\x01", 6) + "\x01\x00\x01", true},
		{"7 channels", "\x02" + part + part + "\x07" + strings.Repeat("\x01\x00\x01", 7) + "\x01\x00\x01", false},
		{"6 slots", "\x01" + part + "\x00" + "\x06" + strings.Repeat("\x00\x08", 6), true},
		{"7 slots", "\x01" + part + "\x00" + "\x07" + strings.Repeat("\x00\x08", 7), false},
		{"no slots", "\x01" + part + "\x00" + "\x00", false},
	} {
		s, e := image.Read(x.b)
		if x.is && (e != api.OK || conf.Check(s) != api.OK) || !x.is && (e != api.ErrForm || !isNothing(s)) {
			t.Errorf("%s: %v %d", x.name, s, e)
		}
	}
}

// L1, P1: bytes that are too few or too many.
func TestWrongLong(t *testing.T) {
	for _, x := range []api.System{some(), relay(), least(), most()} {
		b, _ := image.Write(x)
		for k := range b {
			if s, e := image.Read(b[:k]); e != api.ErrForm || !isNothing(s) {
				t.Errorf("%d bytes of %d: %v %d", k, len(b), s, e)
			}
			if s, e := image.Read(b[k+1:]); e != api.ErrForm && e != api.OK || e != api.OK && !isNothing(s) {
				t.Errorf("behind %d bytes of %d: %v %d", k, len(b), s, e)
			}
		}
		for _, more := range []string{"\x00", "\x01", "x", "\x00\x00\x00", b} {
			if s, e := image.Read(b + more); e != api.ErrForm || !isNothing(s) {
				t.Errorf("%x more: %v %d", more, s, e)
			}
		}
		for long, want := range map[int]api.Errno{api.MaxBytes - 1: 1, api.MaxBytes: 1, api.MaxBytes + 1: 2, api.MaxBytes + 2: 2, 1 << 20: 2} {
			for _, c := range []string{"\x00", "a", "\xff"} {
				for _, text := range []string{b + strings.Repeat(c, long-len(b)), strings.Repeat(c, long)} {
					if s, e := image.Read(text); e != want || !isNothing(s) {
						t.Errorf("%d bytes: %v %d, want %d", long, s, e, want)
					}
				}
			}
		}
	}
}

// draw: numbers for long scripts; the same each time.
type draw uint64

func (d *draw) n(n int) int {
	*d = *d*6364136223846793005 + 1442695040888963407
	return int(uint64(*d) >> 33 % uint64(n))
}

// wide is any number.
func (d *draw) wide() int { return d.n(1<<31)<<33 ^ d.n(1<<31)<<11 ^ d.n(1<<31) }

// instr is of partition me, and right.
func (d *draw) instr(me int, channels []api.Chan) api.Instr {
	if k := d.n(len(channels) + 3); k < len(channels) && channels[k].From == me {
		return api.Instr{Op: api.Put, A: d.n(4), N: k}
	} else if k < len(channels) && channels[k].To == me {
		return api.Instr{Op: api.Get, A: d.n(4), B: d.n(4), N: k}
	}
	a, b := d.n(4), d.n(4)
	return []api.Instr{
		{Op: api.Set, A: a, N: d.wide()}, {Op: api.Copy, A: a, B: b}, {Op: api.Add, A: a, B: b}, {Op: api.Sub, A: a, B: b},
		{Op: api.Less, A: a, B: b}, {Op: api.Load, A: a, B: b}, {Op: api.Save, A: a, B: b}, {Op: api.Jump, N: d.n(20)},
		{Op: api.Zero, A: a, N: d.n(20)}, {Op: api.In, A: a}, {Op: api.Out, A: a}, {Op: api.Rest}, {Op: api.Stop},
	}[d.n(13)]
}

func (d *draw) system() api.System {
	n := 1 + d.n(api.MaxParts)
	var s api.System
	for range d.n(api.MaxChans+1) * min(n-1, 1) {
		a := d.n(n)
		s.Chans = append(s.Chans, api.Chan{Kind: 1 + d.n(2), From: a, To: (a + 1 + d.n(n-1)) % n})
	}
	for me := range n {
		var p api.Part
		for range 1 + d.n(api.MaxCode) {
			p.Code = append(p.Code, d.instr(me, s.Chans))
		}
		for range d.n(api.MaxIn + 1) {
			p.In = append(p.In, d.wide())
		}
		s.Parts = append(s.Parts, p)
	}
	for range 1 + d.n(api.MaxSlots) {
		s.Slots = append(s.Slots, api.Slot{Part: d.n(n), Ticks: 1 + d.n(api.MaxSpan)})
	}
	return s
}

// plain writes a system in the plainest way.
func plain(s api.System) string {
	var b []byte
	number := func(n int) {
		left := uint64(n)
		for range 8 {
			b = append(b, byte(left/(1<<56)))
			left = left % (1 << 56) * 256
		}
	}
	b = append(b, byte(len(s.Parts)))
	for _, p := range s.Parts {
		b = append(b, byte(len(p.Code)))
		for _, i := range p.Code {
			b = append(b, byte(i.Op), byte(i.A), byte(i.B))
			number(i.N)
		}
		b = append(b, byte(len(p.In)))
		for _, n := range p.In {
			number(n)
		}
	}
	b = append(b, byte(len(s.Chans)))
	for _, c := range s.Chans {
		b = append(b, byte(c.Kind), byte(c.From), byte(c.To))
	}
	b = append(b, byte(len(s.Slots)))
	for _, t := range s.Slots {
		b = append(b, byte(t.Part), byte(t.Ticks))
	}
	return string(b)
}

// L1, L2: of many systems: what is written is as the document says, is read as
// it was, and of other bytes nothing is read but the system that is written so.
func TestReadAsItWas(t *testing.T) {
	d := draw(12)
	other, none := 0, 0
	for range 400 {
		s := d.system()
		b, e := image.Write(s)
		if e != api.OK || b != plain(s) {
			t.Fatalf("%v: %x %d, want %x", s, b, e, plain(s))
		}
		if x, e := image.Read(b); e != api.OK || !same(x, s) {
			t.Fatalf("%x: %v %d, want %v", b, x, e, s)
		}
		for range 60 {
			c := []byte(b)
			c[d.n(len(c))] = byte(d.n(256) >> d.n(8))
			x, e := image.Read(string(c))
			switch {
			case e == api.OK && (conf.Check(x) != api.OK || plain(x) != string(c)):
				t.Fatalf("%x: %v", c, x)
			case e == api.OK && string(c) != b:
				other++
			case e != api.OK && (e != api.ErrForm || !isNothing(x)):
				t.Fatalf("%x: %v %d", c, x, e)
			case e != api.OK:
				none++
			}
		}
	}
	if other < 500 || none < 500 {
		t.Errorf("%d are other systems, %d none", other, none)
	}
}

// L2: a system with one field turned by as little as may be is written as other bytes, and read as it is, if it is right.
func TestEachField(t *testing.T) {
	was, _ := image.Write(some())
	turned := 0
	for _, by := range []int{1, -1} {
		for k := range 40 {
			s := some()
			if k >= len(fields(&s)) {
				break
			}
			*fields(&s)[k] += by
			b, e := image.Write(s)
			if e != conf.Check(s) || e == api.OK && (b == was || b != plain(s)) {
				t.Errorf("%v: %x %d", s, b, e)
			}
			if x, f := image.Read(b); e == api.OK && (f != api.OK || !same(x, s)) {
				t.Errorf("%v: %x, read %v %d", s, b, x, f)
			}
			if x, f := image.Read(plain(s)); e != api.OK && (f != api.ErrForm || !isNothing(x)) {
				t.Errorf("%v: read %v %d", s, x, f)
			}
			if e == api.OK {
				turned++
			}
		}
	}
	if turned < 25 {
		t.Errorf("only %d are right", turned)
	}
}

// fields are all numbers of a system.
func fields(s *api.System) []*int {
	var l []*int
	for n := range s.Parts {
		p := &s.Parts[n]
		for k := range p.Code {
			l = append(l, &p.Code[k].Op, &p.Code[k].A, &p.Code[k].B, &p.Code[k].N)
		}
		for k := range p.In {
			l = append(l, &p.In[k])
		}
	}
	for k := range s.Chans {
		l = append(l, &s.Chans[k].Kind, &s.Chans[k].From, &s.Chans[k].To)
	}
	for k := range s.Slots {
		l = append(l, &s.Slots[k].Part, &s.Slots[k].Ticks)
	}
	return l
}

// P2, P3: of Write the system stays, the room behind its lists too.
func TestWriteKeeps(t *testing.T) {
	roomy := func() api.System {
		s := some()
		for k, p := range s.Parts {
			s.Parts[k] = api.Part{Code: append(p.Code, api.Instr{Op: 9})[:len(p.Code)], In: append(p.In, 9)[:len(p.In)]}
		}
		s.Parts = append(s.Parts, api.Part{In: []int{9}})[:3]
		s.Chans = append(s.Chans, api.Chan{Kind: 9})[:2]
		s.Slots = append(s.Slots, api.Slot{Part: 9})[:3]
		return s
	}
	open := func(s api.System) api.System {
		s.Parts, s.Chans, s.Slots = slices.Clone(s.Parts[:4]), s.Chans[:3], s.Slots[:4]
		for k, p := range s.Parts[:3] {
			s.Parts[k] = api.Part{Code: p.Code[:len(p.Code)+1], In: p.In[:len(p.In)+1]}
		}
		return s
	}
	s := roomy()
	b, e := image.Write(s)
	if e != api.OK || b != bytes() || !reflect.DeepEqual(open(s), open(roomy())) {
		t.Fatalf("%x %d: changed: %v", b, e, open(s))
	}
	*fields(&s)[0], *fields(&s)[3] = 2, 5
	clear(s.Slots)
	if b != bytes() {
		t.Fatalf("a later change is seen: %x", b)
	}
}

// P2, P3: what Read answers is the caller's, no two lists of it share memory, and a change of it is not seen later.
func TestReadOfItsOwn(t *testing.T) {
	s, _ := image.Read(bytes())
	for k := range s.Parts {
		p := &s.Parts[k]
		for n := range p.Code[:cap(p.Code)] {
			p.Code[:cap(p.Code)][n] = api.Instr{Op: 100 + k}
		}
		for n := range p.In[:cap(p.In)] {
			p.In[:cap(p.In)][n] = 200 + k
		}
	}
	for k, p := range s.Parts {
		if slices.ContainsFunc(p.Code, func(i api.Instr) bool { return i.Op != 100+k }) ||
			slices.ContainsFunc(p.In, func(n int) bool { return n != 200+k }) {
			t.Fatalf("two lists share memory: %v", s)
		}
	}
	clear(s.Parts)
	clear(s.Chans)
	clear(s.Slots)
	if again, e := image.Read(bytes()); e != api.OK || !same(again, some()) {
		t.Fatalf("a change of an answer is seen: %v %d", again, e)
	}
}

// P1: no call panics, whatever it is handed, and with an error there is nothing else.
func TestAnything(t *testing.T) {
	d := draw(47)
	edges := []int{0, 1, 2, 3, 4, 15, 16, 255, 256, 257, -1, -256, math.MinInt, math.MaxInt}
	right, wrong, read := 0, 0, 0
	for range 20000 {
		s := d.system()
		l := fields(&s)
		for range d.n(3) {
			*l[d.n(len(l))] = edges[d.n(len(edges))]
		}
		b, e := image.Write(s)
		if e != conf.Check(s) || (e == api.OK) != (b != "") || e == api.OK && b != plain(s) {
			t.Fatalf("%v: %x %d", s, b, e)
		}
		if e == api.OK {
			right++
		} else {
			wrong++
		}
		x := make([]byte, d.n(90))
		for k := range x {
			x[k] = byte(d.n(256) >> d.n(9))
		}
		if len(x) > 3 && d.n(2) == 0 {
			b, _ := image.Write(least())
			copy(x, b)
		}
		if s, e := image.Read(string(x)); e == api.OK && plain(s) == string(x) {
			read++
		} else if e != api.ErrForm || !isNothing(s) {
			t.Fatalf("%x: %v %d", x, s, e)
		}
	}
	if right < 1000 || wrong < 1000 || read < 50 {
		t.Errorf("%d are right, %d wrong, %d were read", right, wrong, read)
	}
}
