package isa_test

import (
	"math"
	"strings"
	"testing"

	"lychgate/api"
	"lychgate/isa"
)

// rights has an instruction of each operation at the edges of its fields, as A2 shows it.
var rights = []struct {
	i    api.Instr
	text string
}{
	{api.Instr{Op: api.Set}, "set 0 0"},
	{api.Instr{Op: api.Set, A: 3, N: 10}, "set 3 10"},
	{api.Instr{Op: api.Set, A: 1, N: -1}, "set 1 -1"},
	{api.Instr{Op: api.Set, A: 1, N: math.MaxInt64}, "set 1 9223372036854775807"},
	{api.Instr{Op: api.Set, A: 1, N: math.MinInt64}, "set 1 -9223372036854775808"},
	{api.Instr{Op: api.Copy, A: 3, B: 2}, "copy 3 2"},
	{api.Instr{Op: api.Add, B: 3}, "add 0 3"},
	{api.Instr{Op: api.Sub, A: 1, B: 1}, "sub 1 1"},
	{api.Instr{Op: api.Less, A: 2}, "less 2 0"},
	{api.Instr{Op: api.Load, A: 3, B: 3}, "load 3 3"},
	{api.Instr{Op: api.Save, A: 1, B: 2}, "save 1 2"},
	{api.Instr{Op: api.Jump}, "jump 0"},
	{api.Instr{Op: api.Jump, N: api.MaxCode - 1}, "jump 19"},
	{api.Instr{Op: api.Zero, A: 3, N: api.MaxCode - 1}, "zero 3 19"},
	{api.Instr{Op: api.In, A: 3}, "in 3"},
	{api.Instr{Op: api.Out, A: 1}, "out 1"},
	{api.Instr{Op: api.Put, A: 2, N: api.MaxChans - 1}, "put 2 5"},
	{api.Instr{Op: api.Get, A: 1, B: 2, N: 3}, "get 1 2 3"},
	{api.Instr{Op: api.Get, A: 3, B: 3, N: api.MaxChans - 1}, "get 3 3 5"},
	{api.Instr{Op: api.Rest}, "rest"},
	{api.Instr{Op: api.Stop}, "stop"},
}

// wrongs has instructions that are not right, with A1's error for each.
var wrongs = []struct {
	i api.Instr
	e api.Errno
}{
	{api.Instr{}, api.ErrKind},
	{api.Instr{Op: -1}, api.ErrKind},
	{api.Instr{Op: api.Stop + 1}, api.ErrKind},
	{api.Instr{Op: math.MaxInt64}, api.ErrKind},
	{api.Instr{Op: math.MinInt64}, api.ErrKind},
	{api.Instr{Op: 16, A: 4, B: 4, N: -1}, api.ErrKind}, // ahead of ErrRange and ErrForm
	{api.Instr{Op: api.Set, A: 4}, api.ErrRange},
	{api.Instr{Op: api.Set, A: -1, B: 1}, api.ErrRange}, // ahead of ErrForm
	{api.Instr{Op: api.Set, B: 1}, api.ErrForm},
	{api.Instr{Op: api.Copy, A: 4}, api.ErrRange},
	{api.Instr{Op: api.Copy, B: 4}, api.ErrRange},
	{api.Instr{Op: api.Add, B: -1, N: 7}, api.ErrRange},
	{api.Instr{Op: api.Add, N: 1}, api.ErrForm},
	{api.Instr{Op: api.Sub, A: -1}, api.ErrRange},
	{api.Instr{Op: api.Sub, N: -1}, api.ErrForm},
	{api.Instr{Op: api.Less, N: 1}, api.ErrForm},
	{api.Instr{Op: api.Less, B: 4}, api.ErrRange},
	{api.Instr{Op: api.Load, N: 1}, api.ErrForm},
	{api.Instr{Op: api.Load, B: 4}, api.ErrRange},
	{api.Instr{Op: api.Save, N: 1}, api.ErrForm},
	{api.Instr{Op: api.Save, A: 4}, api.ErrRange},
	{api.Instr{Op: api.Jump, N: api.MaxCode}, api.ErrRange},
	{api.Instr{Op: api.Jump, N: -1}, api.ErrRange},
	{api.Instr{Op: api.Jump, A: 1, N: api.MaxCode}, api.ErrRange},
	{api.Instr{Op: api.Jump, A: 1}, api.ErrForm},
	{api.Instr{Op: api.Jump, B: 1}, api.ErrForm},
	{api.Instr{Op: api.Zero, A: 4}, api.ErrRange},
	{api.Instr{Op: api.Zero, N: api.MaxCode}, api.ErrRange},
	{api.Instr{Op: api.Zero, N: -1}, api.ErrRange},
	{api.Instr{Op: api.Zero, B: 1}, api.ErrForm},
	{api.Instr{Op: api.In, A: 4}, api.ErrRange},
	{api.Instr{Op: api.In, B: 1}, api.ErrForm},
	{api.Instr{Op: api.In, N: 1}, api.ErrForm},
	{api.Instr{Op: api.Out, A: -1}, api.ErrRange},
	{api.Instr{Op: api.Out, B: 9}, api.ErrForm},
	{api.Instr{Op: api.Out, N: math.MinInt64}, api.ErrForm},
	{api.Instr{Op: api.Put, A: 4}, api.ErrRange},
	{api.Instr{Op: api.Put, N: api.MaxChans}, api.ErrRange},
	{api.Instr{Op: api.Put, N: -1}, api.ErrRange},
	{api.Instr{Op: api.Put, B: 1}, api.ErrForm},
	{api.Instr{Op: api.Get, A: 4}, api.ErrRange},
	{api.Instr{Op: api.Get, B: 4}, api.ErrRange},
	{api.Instr{Op: api.Get, N: api.MaxChans}, api.ErrRange},
	{api.Instr{Op: api.Get, N: -1}, api.ErrRange},
	{api.Instr{Op: api.Rest, A: 1}, api.ErrForm},
	{api.Instr{Op: api.Rest, B: -1}, api.ErrForm},
	{api.Instr{Op: api.Rest, N: 1}, api.ErrForm},
	{api.Instr{Op: api.Stop, A: 4}, api.ErrForm},
	{api.Instr{Op: api.Stop, B: 4}, api.ErrForm},
	{api.Instr{Op: api.Stop, N: 20}, api.ErrForm},
}

// A1: right instructions, at the edges of what their fields may be.
func TestCheckRight(t *testing.T) {
	for _, r := range rights {
		if e := isa.Check(r.i); e != api.OK {
			t.Errorf("Check(%v) = %d", r.i, e)
		}
	}
}

// A1, P1: the first error that applies; Show tells it, with no text.
func TestCheckWrong(t *testing.T) {
	for _, w := range wrongs {
		if e := isa.Check(w.i); e != w.e {
			t.Errorf("Check(%v) = %d, want %d", w.i, e, w.e)
		}
		if s, e := isa.Show(w.i); s != "" || e != w.e {
			t.Errorf("Show(%v) = %q %d, want no text and %d", w.i, s, e, w.e)
		}
	}
}

// A2: what is shown, and what is read of it.
func TestShowRead(t *testing.T) {
	for _, r := range rights {
		if s, e := isa.Show(r.i); s != r.text || e != api.OK {
			t.Errorf("Show(%v) = %q %d, want %q", r.i, s, e, r.text)
		}
		if i, e := isa.Read(r.text); i != r.i || e != api.OK {
			t.Errorf("Read(%q) = %v %d, want %v", r.text, i, e, r.i)
		}
	}
}

// A1, A2: of all small instructions those that are right, and only those, come back from their text, and no two have one text.
func TestShowReadAll(t *testing.T) {
	seen := map[string]api.Instr{}
	for op := -1; op <= api.Stop+1; op++ {
		for a := -1; a <= api.Regs; a++ {
			for b := -1; b <= api.Regs; b++ {
				for n := -1; n <= api.MaxCode; n++ {
					i := api.Instr{Op: op, A: a, B: b, N: n}
					s, e := isa.Show(i)
					if e != isa.Check(i) {
						t.Fatalf("Show(%v) tells %d, Check %d", i, e, isa.Check(i))
					}
					if e != api.OK {
						continue
					}
					if j, is := seen[s]; is {
						t.Fatalf("%q is shown of %v and of %v", s, i, j)
					}
					seen[s] = i
					if j, e := isa.Read(s); j != i || e != api.OK {
						t.Fatalf("Read(%q) = %v %d, want %v", s, j, e, i)
					}
				}
			}
		}
	}
	// set, six of two registers, jump, zero, in and out, put, get, rest and stop
	want := 4*22 + 6*16 + 20 + 4*20 + 2*4 + 4*6 + 16*6 + 2
	if len(seen) != want {
		t.Errorf("%d right instructions, want %d", len(seen), want)
	}
}

// A2: texts that no right instruction is shown as.
func TestReadWrong(t *testing.T) {
	for _, s := range []string{
		"", " ", "\n", "\x00", "stop ", " stop", "stop\n", "stop\x00", "stop 0", "rest 0", "Stop", "STOP", "sto", "stopp", "halt", "0", "15",
		"set", "set ", "set 0", "set 0 ", "set 0 5 ", "set 0 5 0", "set  0 5", "set 0  5", " set 0 5", "set\t0 5", "set 0\t5", "set 0 5\n", "set,0,5", "set0 5",
		"set 00 5", "set 0 05", "set 0 00", "set 0 -0", "set 0 +5", "set 0 --5", "set 0 - 5", "set 0 -", "set 0 -05", "set 0 0x5", "set 0 1_0", "set 0 5.0", "set 0 1e1", "set 0 \xff", "set 0 \u0665",
		"set 4 5", "set -1 5", "set -0 5", "set 0 9223372036854775808", "set 0 -9223372036854775809", "set 0 18446744073709551621", "set x 5", "set 0 x",
		"copy 0", "copy 0 4", "copy 4 0", "copy 0 0 0", "add 0", "sub 0 -1", "less 1", "load 1 2 3", "save",
		"jump", "jump 20", "jump -1", "jump 0 0", "jump 07", "zero 0", "zero 0 20", "zero 4 0", "zero 0 0 0",
		"in", "in 4", "in 0 0", "out", "out 4", "out 0 0", "put 0", "put 0 6", "put 0 -1", "put 0 0 0", "put 4 0", "get 0 0", "get 0 0 6", "get 0 4 0", "get 4 0 0", "get 0 0 0 0",
	} {
		if i, e := isa.Read(s); i != (api.Instr{}) || e != api.ErrForm {
			t.Errorf("Read(%q) = %v %d, want nothing and ErrForm", s, i, e)
		}
	}
}

// A2: with any byte of a text another one, gone, or put in, it is read only if it is shown so.
func TestReadNearly(t *testing.T) {
	for _, r := range rights {
		for k := range len(r.text) + 1 {
			if k < len(r.text) {
				readAsShown(t, r.text[:k]+r.text[k+1:])
			}
			for b := range 256 {
				readAsShown(t, r.text[:k]+string([]byte{byte(b)})+r.text[k:])
				if k < len(r.text) {
					readAsShown(t, r.text[:k]+string([]byte{byte(b)})+r.text[k+1:])
				}
			}
		}
	}
}

func readAsShown(t *testing.T, s string) {
	t.Helper()
	i, e := isa.Read(s)
	if e == api.OK {
		if back, f := isa.Show(i); back != s || f != api.OK {
			t.Fatalf("%q is read as %v, which is shown as %q", s, i, back)
		}
	} else if e != api.ErrForm || i != (api.Instr{}) {
		t.Fatalf("Read(%q) = %v %d", s, i, e)
	}
}

// P1, P4: long texts end, with ErrForm.
func TestReadLong(t *testing.T) {
	for _, s := range []string{" ", "0", "9", "-", "set ", "\xff"} {
		long := strings.Repeat(s, 1<<22/len(s))
		for _, head := range []string{"", "set ", "set 0 ", "get 0 0 0 ", "stop"} {
			if i, e := isa.Read(head + long); i != (api.Instr{}) || e != api.ErrForm {
				t.Errorf("%q and many of %q: %v %d", head, s, i, e)
			}
		}
	}
}

// P3: the same answers again, whatever was asked in between.
func TestAgain(t *testing.T) {
	for range 2 {
		TestShowRead(t)
		TestCheckWrong(t)
		TestReadWrong(t)
	}
}
