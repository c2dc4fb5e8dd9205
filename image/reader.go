package image

import "lychgate/api"

// numberSize is how many bytes a number has that need not be small.
const numberSize = 8

// reader is what of the bytes was not read yet. It panics where they are not
// as they must be.
type reader struct{ rest string }

// wrong is what a reader panics with.
const wrong = "wrong"

func must(is bool) {
	if !is {
		panic(wrong)
	}
}

// system need not be right.
func (r *reader) system() api.System {
	return api.System{Parts: list(r, r.part), Chans: list(r, r.channel), Slots: list(r, r.slot)}
}

func (r *reader) part() api.Part {
	return api.Part{Code: list(r, r.instr), In: list(r, r.number)}
}

func (r *reader) instr() api.Instr {
	return api.Instr{Op: r.small(), A: r.small(), B: r.small(), N: r.number()}
}

func (r *reader) channel() api.Chan {
	return api.Chan{Kind: r.small(), From: r.small(), To: r.small()}
}

func (r *reader) slot() api.Slot { return api.Slot{Part: r.small(), Ticks: r.small()} }

// list is as many as the next byte tells, each one read by one.
func list[T any](r *reader, one func() T) []T {
	var l []T
	for range r.small() {
		l = append(l, one())
	}
	return l
}

func (r *reader) small() int { return int(r.take(1)[0]) }

func (r *reader) number() int {
	n := 0
	for _, b := range []byte(r.take(numberSize)) {
		n = n<<8 | int(b)
	}
	return n
}

func (r *reader) take(many int) string {
	must(many <= len(r.rest))
	b := r.rest[:many]
	r.rest = r.rest[many:]
	return b
}
