package cell

import "lychgate/api"

// runner is a cell that does instructions: what it has by now, what comes in
// for it, and what it wants of a channel.
type runner struct {
	api.Cell
	in   []int
	want api.Want
}

// fault is what a runner panics with where it can't go on.
const fault = "fault"

// step does the instruction at At. Whatever panics does so ahead of any
// change, so that a fault leaves all but End as it was.
func (r *runner) step(program []api.Instr) {
	defer func() {
		if recover() != nil {
			r.End = api.Faulted
		}
	}()
	r.do(r.fetch(program))
}

func (r *runner) fetch(program []api.Instr) api.Instr {
	if r.At >= len(program) {
		panic(fault)
	}
	return program[r.At]
}

func (r *runner) do(i api.Instr) {
	next := r.At + 1
	switch i.Op {
	case api.Set:
		r.Regs[i.A] = i.N
	case api.Copy:
		r.Regs[i.A] = r.Regs[i.B]
	case api.Add:
		r.Regs[i.A] += r.Regs[i.B]
	case api.Sub:
		r.Regs[i.A] -= r.Regs[i.B]
	case api.Less:
		r.Regs[i.A] = bit(r.Regs[i.A] < r.Regs[i.B])
	case api.Load:
		r.Regs[i.A] = r.Mem[r.word(i.B)]
	case api.Save:
		r.Mem[r.word(i.B)] = r.Regs[i.A]
	case api.Jump:
		next = i.N
	case api.Zero:
		if r.Regs[i.A] == 0 {
			next = i.N
		}
	case api.In:
		r.Regs[i.A] = r.take()
	case api.Out:
		r.tell(r.Regs[i.A])
	case api.Put:
		r.want = api.Want{Kind: api.Put, Chan: i.N, Reg: i.A, Val: r.Regs[i.A]}
	case api.Get:
		r.want = api.Want{Kind: api.Get, Chan: i.N, Reg: i.A, Flag: i.B}
	case api.Stop:
		r.End = api.Stopped
		next = r.At
	}
	r.At = next
}

// word is the memory word that a register names.
func (r *runner) word(reg int) int {
	n := r.Regs[reg]
	if n < 0 || n >= api.Words {
		panic(fault)
	}
	return n
}

// take is the next number that comes in, 0 if there is none.
func (r *runner) take() int {
	if r.Read >= len(r.in) {
		return 0
	}
	n := r.in[r.Read]
	r.Read++
	return n
}

// tell adds to Out while there is room; a full Out is no fault.
func (r *runner) tell(n int) {
	if len(r.Out) < api.MaxOut {
		r.Out = append(r.Out, n)
	}
}
