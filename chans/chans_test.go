package chans_test

import (
	"math"
	"slices"
	"testing"

	"lychgate/api"
	"lychgate/chans"
)

// first is the numbers from 1 to n.
func first(n int) []int {
	var l []int
	for k := range n {
		l = append(l, k+1)
	}
	return l
}

// D1; P1: Put and Get tell it first, with nothing else.
func TestCheck(t *testing.T) {
	for _, x := range []struct {
		name    string
		kind, n int
		e       api.Errno
	}{
		{"an empty sample", api.Sample, 0, api.OK},
		{"a sample", api.Sample, 1, api.OK},
		{"two in a sample", api.Sample, 2, api.ErrMany},
		{"a queue's number in a sample", api.Sample, api.MaxDepth, api.ErrMany},
		{"an empty queue", api.Queue, 0, api.OK},
		{"a queue", api.Queue, 1, api.OK},
		{"a queue with room", api.Queue, api.MaxDepth - 1, api.OK},
		{"a full queue", api.Queue, api.MaxDepth, api.OK},
		{"one more than a queue has room for", api.Queue, api.MaxDepth + 1, api.ErrMany},
		{"far more than a queue has room for", api.Queue, 1 << 20, api.ErrMany},
		{"far more than a sample has room for", api.Sample, 1 << 20, api.ErrMany},
		{"kind 0", 0, 0, api.ErrKind},
		{"kind 3", 3, 1, api.ErrKind},
		{"kind below 0", -1, 1, api.ErrKind},
		{"the least kind", math.MinInt, 0, api.ErrKind},
		{"the greatest kind", math.MaxInt, 0, api.ErrKind},
		{"the kind ahead of the number", 0, api.MaxDepth + 1, api.ErrKind},
	} {
		l := api.Line{Vals: first(x.n)}
		if e := chans.Check(x.kind, l); e != x.e {
			t.Errorf("%s: Check tells %d, want %d", x.name, e, x.e)
		}
		d, is, e := chans.Put(x.kind, l, 9)
		if e != x.e || e != api.OK && (is || len(d.Vals) != 0) {
			t.Errorf("%s: Put tells %v %v %d, want %d", x.name, d, is, e, x.e)
		}
		d, v, is, e := chans.Get(x.kind, l)
		if e != x.e || e != api.OK && (is || v != 0 || len(d.Vals) != 0) {
			t.Errorf("%s: Get tells %v %d %v %d, want %d", x.name, d, v, is, e, x.e)
		}
	}
}

// D2: what is put.
func TestPut(t *testing.T) {
	for _, x := range []struct {
		name string
		kind int
		vals []int
		want []int
		is   bool
	}{
		{"an empty sample", api.Sample, nil, []int{9}, true},
		{"an empty sample that is not nil", api.Sample, []int{}, []int{9}, true},
		{"a sample", api.Sample, []int{4}, []int{9}, true},
		{"an empty queue", api.Queue, nil, []int{9}, true},
		{"an empty queue that is not nil", api.Queue, []int{}, []int{9}, true},
		{"a queue of one", api.Queue, []int{4}, []int{4, 9}, true},
		{"a queue of two", api.Queue, []int{4, 5}, []int{4, 5, 9}, true},
		{"a full queue", api.Queue, []int{4, 5, 6}, []int{4, 5, 6}, false},
		{"what lies there lies there again", api.Queue, []int{9, 9}, []int{9, 9, 9}, true},
	} {
		for range 2 {
			d, is, e := chans.Put(x.kind, api.Line{Vals: x.vals}, 9)
			if !slices.Equal(d.Vals, x.want) || is != x.is || e != api.OK {
				t.Errorf("%s: %v %v %d, want %v %v", x.name, d.Vals, is, e, x.want, x.is)
			}
		}
	}
}

// D2: what is got.
func TestGet(t *testing.T) {
	for _, x := range []struct {
		name string
		kind int
		vals []int
		want []int
		v    int
		is   bool
	}{
		{"an empty sample", api.Sample, nil, nil, 0, false},
		{"an empty sample that is not nil", api.Sample, []int{}, nil, 0, false},
		{"a sample", api.Sample, []int{4}, []int{4}, 4, true},
		{"a sample of 0", api.Sample, []int{0}, []int{0}, 0, true},
		{"an empty queue", api.Queue, nil, nil, 0, false},
		{"an empty queue that is not nil", api.Queue, []int{}, nil, 0, false},
		{"a queue of one", api.Queue, []int{4}, nil, 4, true},
		{"a queue of 0", api.Queue, []int{0}, nil, 0, true},
		{"a queue of two", api.Queue, []int{4, 5}, []int{5}, 4, true},
		{"a full queue", api.Queue, []int{4, 5, 6}, []int{5, 6}, 4, true},
	} {
		for range 2 {
			d, v, is, e := chans.Get(x.kind, api.Line{Vals: x.vals})
			if !slices.Equal(d.Vals, x.want) || v != x.v || is != x.is || e != api.OK {
				t.Errorf("%s: %v %d %v %d, want %v %d %v", x.name, d.Vals, v, is, e, x.want, x.v, x.is)
			}
		}
	}
}

// D2: any numbers lie in channels as they are.
func TestAnyNumber(t *testing.T) {
	for _, n := range []int{0, 1, -1, math.MinInt, math.MaxInt} {
		for _, kind := range []int{api.Sample, api.Queue} {
			l, _, _ := chans.Put(kind, api.Line{}, n)
			if _, v, is, e := chans.Get(kind, l); v != n || !is || e != api.OK {
				t.Errorf("kind %d: %d comes out as %d %v %d", kind, n, v, is, e)
			}
		}
	}
}

// The document's fourth example: a queue of 1, 2, 3 takes no fourth number.
func TestNoFourth(t *testing.T) {
	var l api.Line
	for n := 1; n <= 4; n++ {
		d, is, e := chans.Put(api.Queue, l, n)
		if is != (n < 4) || e != api.OK {
			t.Fatalf("%d put to %v: %v %d", n, l.Vals, is, e)
		}
		l = d
	}
	if !slices.Equal(l.Vals, []int{1, 2, 3}) {
		t.Fatalf("%v", l.Vals)
	}
}

// Of a queue what was put comes out in its order; a right line stays right.
func TestOrder(t *testing.T) {
	var l api.Line
	var in, out []int
	d := uint64(7)
	for n := range 5000 {
		d = d*6364136223846793005 + 1442695040888963407
		var is bool
		var e api.Errno
		if d>>33%2 == 0 {
			full := len(l.Vals) == api.MaxDepth
			if l, is, e = chans.Put(api.Queue, l, n); is {
				in = append(in, n)
			}
			if is == full {
				t.Fatalf("put %d: %v, full is %v", n, is, full)
			}
		} else {
			empty := len(l.Vals) == 0
			var v int
			if l, v, is, e = chans.Get(api.Queue, l); is {
				out = append(out, v)
			}
			if is == empty {
				t.Fatalf("got %d: %v, empty is %v", v, is, empty)
			}
		}
		if e != api.OK || chans.Check(api.Queue, l) != api.OK {
			t.Fatalf("%v: %d", l.Vals, e)
		}
	}
	if len(out) < 1000 || !slices.Equal(append(out, l.Vals...), in) {
		t.Fatalf("%d were put, %d came out, %v is left", len(in), len(out), l.Vals)
	}
}

// P2: what is handed in stays, its spare room too; an answer shares no memory with it.
func TestOwnMemory(t *testing.T) {
	for _, kind := range []int{api.Sample, api.Queue} {
		for n := range api.MaxDepth + 1 {
			room := []int{1, 2, 3, 4, 5}
			l := api.Line{Vals: room[:n]}
			if chans.Check(kind, l) != api.OK {
				continue
			}
			p, _, _ := chans.Put(kind, l, 9)
			g, _, _, _ := chans.Get(kind, l)
			put, got := slices.Clone(p.Vals), slices.Clone(g.Vals)
			if !slices.Equal(room, first(5)) {
				t.Fatalf("kind %d of %d: changed: %v", kind, n, room)
			}
			clear(room)
			if !slices.Equal(p.Vals, put) || !slices.Equal(g.Vals, got) {
				t.Fatalf("kind %d of %d: a later change is seen: %v %v", kind, n, p.Vals, g.Vals)
			}
			for _, x := range [][]int{p.Vals, g.Vals} {
				x = append(x, 77)
				for k := range x {
					x[k] = 78
				}
			}
			if !slices.Equal(room, make([]int, 5)) {
				t.Fatalf("kind %d of %d: an answer shares memory with what was handed in: %v", kind, n, room)
			}
		}
	}
}
