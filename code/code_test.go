package code_test

import (
	"slices"
	"strings"
	"testing"

	"lychgate/api"
	"lychgate/code"
)

const relay = "get 0 1 0\nzero 1 0\nout 0\nput 0 1\njump 0\n"

// relayCode is the document's second example: it tells what it gets by channel 0, and puts it on by channel 1.
func relayCode() []api.Instr {
	return []api.Instr{
		{Op: api.Get, A: 0, B: 1, N: 0},
		{Op: api.Zero, A: 1, N: 0},
		{Op: api.Out, A: 0},
		{Op: api.Put, A: 0, N: 1},
		{Op: api.Jump, N: 0},
	}
}

func rests(n int) []api.Instr {
	return slices.Repeat([]api.Instr{{Op: api.Rest}}, n)
}

// wrongs has programs that are not right, with B1's error for each.
var wrongs = []struct {
	name string
	l    []api.Instr
	e    api.Errno
}{
	{"nil", nil, api.ErrMany},
	{"empty", []api.Instr{}, api.ErrMany},
	{"one too many", rests(api.MaxCode + 1), api.ErrMany},
	{"far too many", rests(1 << 20), api.ErrMany},
	{"too many, and a wrong one", append(rests(api.MaxCode), api.Instr{Op: 16}), api.ErrMany},
	{"of no kind", []api.Instr{{}}, api.ErrKind},
	{"out of range", []api.Instr{{Op: api.Out, A: 4}}, api.ErrRange},
	{"of no form", []api.Instr{{Op: api.Stop, A: 1}}, api.ErrForm},
	{"the last one wrong", append(rests(api.MaxCode-1), api.Instr{Op: api.Jump, N: api.MaxCode}), api.ErrRange},
	{"form ahead of kind", []api.Instr{{Op: api.Stop}, {Op: api.Stop, N: 1}, {Op: 99}}, api.ErrForm},
	{"kind ahead of form", []api.Instr{{Op: api.Stop}, {Op: 99}, {Op: api.Stop, N: 1}}, api.ErrKind},
	{"range ahead of kind", []api.Instr{{Op: api.Put, N: 6}, {Op: 0}}, api.ErrRange},
}

// B1: one to MaxCode right instructions are right.
func TestCheckRight(t *testing.T) {
	for n := 1; n <= api.MaxCode; n++ {
		if e := code.Check(rests(n)); e != api.OK {
			t.Errorf("%d instructions: %d", n, e)
		}
	}
	if e := code.Check(relayCode()); e != api.OK {
		t.Errorf("the relay: %d", e)
	}
}

// B1, P1: all calls on a program tell Check's error, and nothing else.
func TestWrong(t *testing.T) {
	for _, w := range wrongs {
		if e := code.Check(w.l); e != w.e {
			t.Errorf("%s: Check tells %d, want %d", w.name, e, w.e)
		}
		if l, e := code.Puts(w.l); len(l) != 0 || e != w.e {
			t.Errorf("%s: Puts tells %v %d, want %d", w.name, l, e, w.e)
		}
		if l, e := code.Gets(w.l); len(l) != 0 || e != w.e {
			t.Errorf("%s: Gets tells %v %d, want %d", w.name, l, e, w.e)
		}
		if s, e := code.Show(w.l); s != "" || e != w.e {
			t.Errorf("%s: Show tells %q %d, want %d", w.name, s, e, w.e)
		}
	}
}

// B1: the channels that are named, rising, none twice; the N of others names none.
func TestPutsGets(t *testing.T) {
	for _, c := range []struct {
		text       string
		puts, gets []int
	}{
		{relay, []int{1}, []int{0}},
		{"stop\n", nil, nil},
		{"set 0 3\njump 4\nzero 1 5\n", nil, nil},
		{"put 0 5\nput 1 2\nput 2 5\nget 0 0 3\n", []int{2, 5}, []int{3}},
		{"put 0 5\nput 0 4\nput 0 3\nput 0 2\nput 0 1\nput 0 0\n", []int{0, 1, 2, 3, 4, 5}, nil},
		{"get 0 0 5\nget 0 0 4\nget 1 1 5\nget 0 0 0\nget 2 2 4\n", nil, []int{0, 4, 5}},
		{"put 0 1\nget 0 0 1\n", []int{1}, []int{1}},
	} {
		l, e := code.Read(c.text)
		if e != api.OK {
			t.Fatalf("Read(%q): %d", c.text, e)
		}
		if p, e := code.Puts(l); !slices.Equal(p, c.puts) || e != api.OK {
			t.Errorf("Puts of %q: %v %d, want %v", c.text, p, e, c.puts)
		}
		if g, e := code.Gets(l); !slices.Equal(g, c.gets) || e != api.OK {
			t.Errorf("Gets of %q: %v %d, want %v", c.text, g, e, c.gets)
		}
	}
}

// B2: a line for each instruction; what is shown is read as it was.
func TestShowRead(t *testing.T) {
	for _, c := range []struct {
		l    []api.Instr
		text string
	}{
		{relayCode(), relay},
		{rests(1), "rest\n"},
		{rests(api.MaxCode), strings.Repeat("rest\n", api.MaxCode)},
		{[]api.Instr{{Op: api.Set, A: 2, N: -7}, {Op: api.Stop}}, "set 2 -7\nstop\n"},
	} {
		if s, e := code.Show(c.l); s != c.text || e != api.OK {
			t.Errorf("Show(%v) = %q %d, want %q", c.l, s, e, c.text)
		}
		if l, e := code.Read(c.text); !slices.Equal(l, c.l) || e != api.OK {
			t.Errorf("Read(%q) = %v %d, want %v", c.text, l, e, c.l)
		}
	}
}

// B2, P1, P4: texts that no right program is shown as.
func TestReadWrong(t *testing.T) {
	for _, s := range []string{
		"", "\n", "\n\n", "stop", "stop\nstop", "stop\n\n", "\nstop\n", "stop\n\nstop\n", "stop\r\n", "stop \n", " stop\n", "stop\n ", "stop;stop\n",
		"set 0 05\n", "jump 20\n", "stop\nhalt\n", "stop\nout 4\n", "set 0\n5\n", "stop\x00\n",
		strings.Repeat("rest\n", api.MaxCode+1), strings.Repeat("rest\n", api.MaxCode) + "\n", strings.Repeat("rest\n", api.MaxCode) + "rest", strings.Repeat("rest\n", 1<<20),
		strings.Repeat("\n", 1<<22), strings.Repeat("rest", 1<<20), strings.Repeat("set 0 0 ", 1<<19) + "\n",
	} {
		if l, e := code.Read(s); len(l) != 0 || e != api.ErrForm {
			t.Errorf("Read(%.40q) = %v %d, want nothing and ErrForm", s, l, e)
		}
	}
}

// B2: with any byte of a text another one, it is read only if it is shown so.
func TestReadNearly(t *testing.T) {
	for k := range len(relay) {
		for b := range 256 {
			s := relay[:k] + string([]byte{byte(b)}) + relay[k+1:]
			l, e := code.Read(s)
			if e != api.OK {
				if e != api.ErrForm || len(l) != 0 {
					t.Fatalf("Read(%q) = %v %d", s, l, e)
				}
				continue
			}
			if back, f := code.Show(l); back != s || f != api.OK {
				t.Fatalf("%q is read as %v, which is shown as %q", s, l, back)
			}
		}
	}
}

// P2: the list that is handed in stays, its spare room too.
func TestOnlyRead(t *testing.T) {
	room := append(relayCode(), rests(5)...)
	kept := slices.Clone(room)
	l := room[:5]
	code.Check(l)
	code.Puts(l)
	code.Gets(l)
	code.Show(l)
	if !slices.Equal(room, kept) {
		t.Errorf("%v became %v", kept, room)
	}
}

// P2, P3: an answer is the caller's: what it does with it is not seen later.
func TestAnswersAreNew(t *testing.T) {
	for range 2 {
		l, _ := code.Read(relay)
		if !slices.Equal(l, relayCode()) {
			t.Fatalf("read as %v", l)
		}
		p, _ := code.Puts(l)
		g, _ := code.Gets(l)
		if !slices.Equal(p, []int{1}) || !slices.Equal(g, []int{0}) {
			t.Fatalf("puts %v, gets %v", p, g)
		}
		p[0] = 9
		if g[0] != 0 {
			t.Fatalf("puts and gets share memory")
		}
		g[0] = 9
		clear(l[:cap(l)])
	}
}
