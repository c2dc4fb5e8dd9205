package flat

import "lychgate/api"

// reader is what of a row was not read yet. It panics where the row is not as
// it must be.
type reader struct{ rest []int }

// wrong is what a reader panics with.
const wrong = "wrong"

func must(is bool) {
	if !is {
		panic(wrong)
	}
}

// world is that of so many partitions and channels. It need not be right.
func (r *reader) world(parts, channels int) api.World {
	w := api.World{Tick: r.number()}
	for range parts {
		w.Cells = append(w.Cells, r.cell())
	}
	for range channels {
		w.Lines = append(w.Lines, api.Line{Vals: r.list(api.MaxDepth)})
	}
	return w
}

func (r *reader) cell() api.Cell {
	var c api.Cell
	c.At = r.number()
	copy(c.Regs[:], r.take(api.Regs))
	copy(c.Mem[:], r.take(api.Words))
	c.Read = r.number()
	c.End = r.number()
	c.Out = r.list(api.MaxOut)
	return c
}

// list is in memory of its own. Where there is room in it still, there must be
// 0, or the row would be another one than the list is laid as.
func (r *reader) list(room int) []int {
	many := r.number()
	must(many >= 0 && many <= room)
	l := r.take(room)
	for _, n := range l[many:] {
		must(n == 0)
	}
	return append([]int(nil), l[:many]...)
}

func (r *reader) number() int { return r.take(1)[0] }

// take is the next numbers, in the row's memory.
func (r *reader) take(many int) []int {
	must(many <= len(r.rest))
	l := r.rest[:many]
	r.rest = r.rest[many:]
	return l
}
