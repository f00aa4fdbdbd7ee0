package view_test

import (
	"slices"
	"strconv"
	"testing"

	"belated/api"
	"belated/litmus"
	"belated/view"
)

// times is those of a Run, by thread: of its memory operations along its path, of
// a store its own, of a load that of its source.
type times = [][]int

// sight is codes, with Runs of them that are accepted, and that are not.
type sight struct {
	what  string
	codes []code
	yes   []times
	no    []times
}

// shifted is a code behind a known branch that passes over an instruction: places
// are not indices there. Told is whether there is room.
func shifted(c code) (code, bool) {
	out := code{ifZero(5, 2), konst(5, 1)}
	for _, i := range c {
		if i.Op == api.OpBranch {
			i.To += 2
		}
		out = append(out, i)
	}
	return out, len(out) <= api.MaxCode
}

// versions hands out codes as they are, with threads in another order, idle ones
// among them, and with each thread shifted; with what the times of a Run are there.
func versions(codes []code, is func(codes []code, turn func(times) times)) {
	order := []int{0, 1, 2}
	for range order {
		order = append(order[1:], order[0])
		turned := make([]code, api.MaxThreads)
		for thread, c := range codes {
			turned[order[thread]] = c
		}
		turn := func(l times) times {
			out := make(times, api.MaxThreads)
			for thread, row := range l {
				out[order[thread]] = row
			}
			return out
		}
		is(turned, turn)
		for thread := range turned {
			if c, ok := shifted(turned[thread]); ok {
				moved := slices.Clone(turned)
				moved[thread] = c
				if litmus.Check(on(api.ARM, moved...)) == api.OK || litmus.Check(on(api.RISCV, moved...)) == api.OK {
					is(moved, turn)
				}
			}
		}
	}
	is(codes, func(l times) times { return l })
}

// holds is whether Accepts tells of Runs what it should.
func (s sight) holds(t *testing.T) {
	t.Helper()
	versions(s.codes, func(codes []code, turn func(times) times) {
		for _, x := range rights(t, codes...) {
			for n, l := range slices.Concat(s.yes, s.no) {
				want := n < len(s.yes)
				if got := view.Accepts(x, timed(t, x, slices.Concat(turn(l)...)...)); got != want {
					t.Errorf("18.2: %s: of the times %v Accepts is %v: %+v", s.what, l, got, x)
				}
			}
		}
	})
}

func row(l ...[]int) times { return l }

// Two reads of one location, by coherence alone; at the join, and on either side.
func TestCoherence(t *testing.T) {
	for _, s := range []sight{
		{"two reads", []code{{load(0, x), load(1, x)}, {one(x)}},
			[]times{row([]int{0, 0}, []int{1}), row([]int{0, 1}, []int{1}), row([]int{1, 1}, []int{1})},
			[]times{row([]int{1, 0}, []int{1})}},
		{"two reads of two messages", []code{{load(0, x), load(1, x)}, {one(x), two(x)}},
			[]times{row([]int{1, 2}, []int{1, 2}), row([]int{0, 2}, []int{1, 2}), row([]int{0, 1}, []int{1, 2}), row([]int{2, 2}, []int{1, 2})},
			[]times{row([]int{2, 1}, []int{1, 2}), row([]int{2, 0}, []int{1, 2}), row([]int{1, 0}, []int{1, 2})}},
		{"with another's between", []code{{load(0, x), load(1, x)}, {one(x), two(x)}, {one(y)}},
			[]times{row([]int{1, 3}, []int{1, 3}, []int{2}), row([]int{2, 2}, []int{2, 3}, []int{1})},
			[]times{row([]int{3, 1}, []int{1, 3}, []int{2}), row([]int{3, 2}, []int{2, 3}, []int{1}), row([]int{2, 0}, []int{2, 3}, []int{1})}},
		{"reads of two locations", []code{{load(0, y), load(1, x)}, {one(x), one(y)}},
			[]times{row([]int{2, 0}, []int{1, 2}), row([]int{1, 0}, []int{2, 1}), row([]int{2, 1}, []int{1, 2})}, nil},
		{"behind what it wrote itself", []code{{one(x), load(0, x), load(1, x)}, {two(x)}},
			[]times{row([]int{1, 1, 1}, []int{2}), row([]int{1, 1, 2}, []int{2}), row([]int{1, 2, 2}, []int{2}), row([]int{2, 2, 2}, []int{1})},
			[]times{row([]int{1, 2, 1}, []int{2})}},
		{"by registers as indices", []code{{by(5, load(0, x)), by(7, load(1, x))}, {by(6, one(x))}},
			[]times{row([]int{0, 1}, []int{1})}, []times{row([]int{1, 0}, []int{1})}},
	} {
		s.holds(t)
	}
}

// between is what may stand between two memory operations: whether a read ahead of
// it, and a write, is ordered with a read behind it, and a write.
type between struct {
	what           string
	code           code
	rr, rw, wr, ww bool
}

// betweens is what is behind a read of r0, or of a write. (What hangs on r0 orders
// reads alone.)
func betweens() []between {
	out := []between{
		{what: "nothing"},
		{what: "an ISB", code: code{isb()}},
		{what: "a branch by r5", code: code{ifZero(5, 2), isb()}},
		{what: "a branch", code: code{ifZero(0, 2)}, rw: true},
		{what: "a branch, the other way", code: code{unless(0, 2)}, rw: true},
		{what: "a branch and an ISB", code: code{ifZero(0, 2), isb()}, rr: true, rw: true},
		{what: "an ISB and a branch", code: code{isb(), ifZero(0, 3)}, rw: true},
		{what: "a move and a branch", code: code{move(1, 0), ifZero(1, 3), isb()}, rr: true, rw: true},
		{what: "a move of another and a branch", code: code{move(1, 5), ifZero(1, 3), isb()}},
		{what: "an A and a branch", code: code{alu(api.FnXor, 1, 0, 5), ifZero(1, 3), isb()}, rr: true, rw: true},
		{what: "a B and a branch", code: code{alu(api.FnXor, 1, 5, 0), ifZero(1, 3), isb()}, rr: true, rw: true},
		{what: "two others and a branch", code: code{alu(api.FnXor, 1, 5, 4), ifZero(1, 3), isb()}},
		{what: "a sum with a number and a branch", code: code{aluImm(api.FnAdd, 1, 0, 1), ifZero(1, 3), isb()}, rr: true, rw: true},
		{what: "a sum of another and a branch", code: code{aluImm(api.FnAdd, 1, 5, 1), ifZero(1, 3), isb()}},
		{what: "r0 given anew and a branch", code: code{konst(0, 1), ifZero(0, 3), isb()}},
		{what: "r0 given anew behind a branch", code: code{ifZero(0, 2), konst(0, 1)}, rw: true},
		{what: "a move, r0 given anew, a branch", code: code{move(1, 0), konst(0, 0), ifZero(1, 4), isb()}, rr: true, rw: true},
		{what: "a read by r0", code: code{by(0, load(1, z))}, rw: true},
		{what: "a read by r0 and an ISB", code: code{by(0, load(1, z)), isb()}, rr: true, rw: true},
		{what: "an ISB and a read by r0", code: code{isb(), by(0, load(1, z))}, rw: true},
		{what: "a read by r5 and an ISB", code: code{by(5, load(1, z)), isb()}},
		{what: "a read and an ISB", code: code{load(1, z), isb()}},
		{what: "a read by a move of r0 and an ISB", code: code{move(1, 0), by(1, load(1, z)), isb()}, rr: true, rw: true},
		{what: "a read with Acq by r0", code: code{by(0, acq(load(1, z)))}, rr: true, rw: true},
		{what: "a read with Weak by r0", code: code{by(0, weak(load(1, z)))}, rr: true, rw: true},
		{what: "a read with Acq", code: code{acq(load(1, z))}},
		{what: "a read with Weak", code: code{weak(load(1, z))}},
		{what: "a branch by what is read by r0", code: code{by(0, load(1, z)), ifZero(1, 3), isb()}, rr: true, rw: true},
	}
	for pred := 1; pred <= 3; pred++ {
		for succ := 1; succ <= 3; succ++ {
			fences := between{what: "a fence " + strconv.Itoa(pred) + " " + strconv.Itoa(succ), code: code{fence(pred, succ)}}
			fences.rr, fences.rw = pred != 2 && succ != 2, pred != 2 && succ != 1
			fences.wr, fences.ww = pred != 1 && succ != 2, pred != 1 && succ != 1
			out = append(out, fences)
		}
	}
	return append(out, between{what: "two fences that do not meet", code: code{fence(1, 1), fence(2, 2)}, rr: true, ww: true},
		between{what: "a fence ahead of an ISB", code: code{fence(3, 3), isb()}, rr: true, rw: true, wr: true, ww: true})
}

// spliced is a code between two instructions: its branches are laid out for that.
func spliced(first api.Ins, middle code, last api.Ins) code {
	return slices.Concat(code{first}, middle, code{last})
}

// reading is how many reads there are in a code, each of time 0.
func reading(c code) []int { return make([]int, ops(c)) }

// either is Runs that are accepted, with one that is not if it is ordered.
func either(what string, codes []code, ordered bool, asked times, yes ...times) sight {
	if ordered {
		return sight{what, codes, yes, []times{asked}}
	}
	return sight{what, codes, append(yes, asked), nil}
}

// Each kind of what may stand between two operations, of two reads, of a read and
// a write, ..: the second one against a message, a time just below the first one's,
// and just above.
func TestBetween(t *testing.T) {
	for _, m := range betweens() {
		mid := reading(m.code)
		of := func(first int, last int) []int { return slices.Concat([]int{first}, mid, []int{last}) }
		either("two reads, between them "+m.what, []code{spliced(load(0, y), m.code, load(2, x)), {one(x), one(y)}}, m.rr,
			row(of(2, 0), []int{1, 2}), row(of(1, 0), []int{2, 1}), row(of(2, 1), []int{1, 2}), row(of(0, 0), []int{1, 2})).holds(t)
		either("a read and a write, between them "+m.what, []code{spliced(load(0, y), m.code, one(x)), {one(y)}}, m.rw,
			row(of(2, 1), []int{2}), row(of(1, 2), []int{1}), row(of(0, 1), []int{2}), row(of(0, 2), []int{1})).holds(t)
		either("a write and a read, between them "+m.what, []code{spliced(one(y), m.code, load(2, x)), {one(x)}}, m.wr,
			row(of(2, 0), []int{1}), row(of(1, 0), []int{2}), row(of(2, 1), []int{1}), row(of(1, 2), []int{2})).holds(t)
		either("two writes, between them "+m.what, []code{spliced(one(y), m.code, one(x))}, m.ww,
			row(of(2, 1)), row(of(1, 2))).holds(t)
	}
}

// The marks of the first operation, and of the second.
func TestMarks(t *testing.T) {
	plain := func(i api.Ins) api.Ins { return i }
	type mark = func(i api.Ins) api.Ins
	loads, stores := []mark{plain, acq, weak}, []mark{plain, rel}
	for n, first := range loads {
		for m, last := range loads {
			what := "two reads with the marks " + strconv.Itoa(n) + " " + strconv.Itoa(m)
			either(what, []code{{first(load(0, y)), last(load(1, x))}, {one(x), one(y)}}, n > 0,
				row([]int{2, 0}, []int{1, 2}), row([]int{1, 0}, []int{2, 1})).holds(t)
		}
		for m, last := range stores {
			marks := " with the marks " + strconv.Itoa(n) + " " + strconv.Itoa(m)
			either("a read and a write"+marks, []code{{first(load(0, y)), last(one(x))}, {one(y)}}, n > 0 || m > 0,
				row([]int{2, 1}, []int{2}), row([]int{1, 2}, []int{1}), row([]int{0, 1}, []int{2})).holds(t)
			either("a write and a read"+marks, []code{{last(one(y)), first(load(0, x))}, {one(x)}}, n == 1 && m > 0,
				row([]int{2, 0}, []int{1}), row([]int{1, 0}, []int{2}), row([]int{2, 1}, []int{1})).holds(t)
		}
	}
	for n, first := range stores {
		for m, last := range stores {
			either("two writes with the marks "+strconv.Itoa(n)+" "+strconv.Itoa(m), []code{{first(one(y)), last(one(x))}}, m > 0,
				row([]int{2, 1}), row([]int{1, 2})).holds(t)
		}
	}
}

// What a release turns: a read with Acq behind it, and all behind that one.
func TestRelease(t *testing.T) {
	for _, s := range []sight{
		{"a read behind Rel and Acq", []code{{rel(one(z)), acq(load(0, y)), load(1, x)}, {one(x)}},
			[]times{row([]int{1, 0, 0}, []int{2}), row([]int{2, 0, 1}, []int{1})}, []times{row([]int{2, 0, 0}, []int{1})}},
		{"a write behind Rel and Acq", []code{{rel(one(z)), acq(load(0, y)), one(x)}},
			[]times{row([]int{1, 0, 2})}, []times{row([]int{2, 0, 1})}},
		{"a read behind Rel and Weak", []code{{rel(one(z)), weak(load(0, y)), load(1, x)}, {one(x)}},
			[]times{row([]int{2, 0, 0}, []int{1})}, nil},
		{"a write behind Rel and Weak", []code{{rel(one(z)), weak(load(0, y)), one(x)}}, []times{row([]int{2, 0, 1})}, nil},
		{"a read behind a write and Acq", []code{{one(z), acq(load(0, y)), load(1, x)}, {one(x)}},
			[]times{row([]int{2, 0, 0}, []int{1})}, nil},
		{"Acq behind Rel and a write", []code{{rel(one(z)), one(y), acq(load(0, x))}, {one(x)}},
			[]times{row([]int{1, 3, 0}, []int{2})}, []times{row([]int{2, 3, 0}, []int{1})}},
		{"Acq of what Rel wrote", []code{{rel(one(z)), acq(load(0, z)), load(1, x)}, {one(x)}},
			[]times{row([]int{1, 1, 0}, []int{2})}, []times{row([]int{2, 2, 0}, []int{1})}},
		{"Weak of what Rel wrote", []code{{rel(one(z)), weak(load(0, z)), load(1, x)}, {one(x)}},
			[]times{row([]int{2, 2, 0}, []int{1})}, nil},
		{"the release of another", []code{{rel(one(z)), load(1, y)}, {acq(load(0, y)), load(1, x)}, {one(x)}},
			[]times{row([]int{2, 0}, []int{0, 0}, []int{1})}, nil},
	} {
		s.holds(t)
	}
}

// What a thread wrote last itself, and reads: the view of the pair, not its time.
func TestForwarding(t *testing.T) {
	next := func(at int) api.Ins { return ifZero(0, at+1) }
	for _, s := range []sight{
		{"a datum", []code{{one(x), load(0, x), store(0, y)}}, []times{row([]int{2, 2, 1}), row([]int{1, 1, 2})}, nil},
		{"a branch", []code{{one(x), load(0, x), next(2), one(y)}}, []times{row([]int{2, 2, 1}), row([]int{1, 1, 2})}, nil},
		{"an index", []code{{one(x), load(0, x), by(0, one(y))}}, []times{row([]int{2, 2, 1})}, nil},
		{"Acq", []code{{one(x), acq(load(0, x)), one(y)}}, []times{row([]int{2, 2, 1})}, nil},
		{"a branch on what another wrote", []code{{load(0, x), next(1), one(y)}, {one(x)}},
			[]times{row([]int{1, 2}, []int{1})}, []times{row([]int{2, 1}, []int{2})}},
		{"what another wrote behind it", []code{{one(x), load(0, x), next(2), one(y)}, {two(x)}},
			[]times{row([]int{2, 2, 1}, []int{3}), row([]int{3, 3, 1}, []int{2}), row([]int{3, 3, 2}, []int{1}), row([]int{1, 2, 3}, []int{2})},
			[]times{row([]int{1, 3, 2}, []int{3}), row([]int{2, 3, 1}, []int{3})}},
		{"a fence of reads", []code{{one(x), load(0, x), fence(1, 2), one(y)}}, []times{row([]int{2, 2, 1})}, nil},
		{"a fence of writes", []code{{one(x), load(0, x), fence(2, 2), one(y)}}, nil, []times{row([]int{2, 2, 1})}},
		{"Rel", []code{{one(x), load(0, x), rel(one(y))}}, []times{row([]int{1, 1, 2})}, []times{row([]int{2, 2, 1})}},
		{"a datum that hangs, and a branch", []code{{load(4, z), store(4, x), load(0, x), next(3), one(y)}, {one(z)}},
			[]times{row([]int{1, 3, 3, 2}, []int{1}), row([]int{1, 2, 2, 3}, []int{1}), row([]int{0, 2, 2, 1}, []int{3}), row([]int{0, 3, 3, 1}, []int{2})},
			[]times{row([]int{2, 3, 3, 1}, []int{2})}},
		{"a datum that hangs, and Acq", []code{{load(4, z), store(4, x), acq(load(0, x)), load(1, y)}, {one(z), one(y)}},
			[]times{row([]int{1, 3, 3, 0}, []int{1, 2}), row([]int{1, 2, 2, 0}, []int{1, 3})}, []times{row([]int{2, 3, 3, 0}, []int{2, 1})}},
		{"an address that hangs, and Acq", []code{{load(4, z), by(4, one(x)), acq(load(0, x)), load(1, y)}, {one(z), one(y)}},
			[]times{row([]int{1, 3, 3, 0}, []int{1, 2}), row([]int{1, 2, 2, 0}, []int{1, 3})}, []times{row([]int{2, 3, 3, 0}, []int{2, 1})}},
		{"a datum that hangs no more, and Acq", []code{{load(4, z), konst(4, 1), store(4, x), acq(load(0, x)), load(1, y)}, {one(z), one(y)}},
			[]times{row([]int{2, 3, 3, 0}, []int{2, 1})}, nil},
		{"a pair that was replaced", []code{{load(4, z), store(4, x), one(x), load(0, x), next(4), one(y)}, {one(z)}},
			[]times{row([]int{2, 3, 4, 4, 1}, []int{2})}, nil},
		{"a pair that replaced", []code{{load(4, z), one(x), store(4, x), load(0, x), next(4), one(y)}, {one(z)}},
			[]times{row([]int{1, 2, 4, 4, 3}, []int{1}), row([]int{1, 3, 4, 4, 2}, []int{1})}, []times{row([]int{2, 3, 4, 4, 1}, []int{2})}},
		{"pairs of two locations", []code{{load(4, z), store(4, x), one(y), load(0, y), next(4), one(z)}, {two(z)}},
			[]times{row([]int{1, 3, 4, 4, 2}, []int{1})}, nil},
	} {
		s.holds(t)
	}
}

// Views that come of fences decide where a datum, an address alone would not:
// behind a fence of reads alone no write is held up.
func TestWhatHangs(t *testing.T) {
	ahead := func(c ...api.Ins) code { return append(code{load(1, y), fence(1, 1), load(0, x)}, c...) }
	behind := func(what string, ordered bool, c ...api.Ins) {
		t.Helper()
		either(what, []code{ahead(c...), {one(y)}}, ordered, row([]int{2, 0, 1}, []int{2}), row([]int{1, 0, 2}, []int{1})).holds(t)
	}
	behind("a write", false, one(z))
	behind("a datum", true, store(0, z))
	behind("an index", true, by(0, one(z)))
	behind("an index and a datum", true, by(0, store(0, z)))
	behind("a datum, moved", true, move(2, 0), store(2, z))
	behind("an index, computed", true, alu(api.FnXor, 2, 0, 0), by(2, one(z)))
	behind("a datum, computed with another", true, alu(api.FnAdd, 2, 7, 0), store(2, z))
	behind("a datum, computed from it", true, aluImm(api.FnAnd, 2, 0, 0), store(2, z))
	behind("a datum, given anew", false, konst(0, 1), store(0, z))
	behind("an index, given anew", false, konst(0, 0), by(0, one(z)))
	behind("a branch", true, ifZero(0, 4), one(z))
	behind("a branch by another", false, ifZero(5, 4), one(z))
}

// A view that is joined with a lesser one stays as it was.
func TestJoined(t *testing.T) {
	two := func(what string, c ...api.Ins) sight {
		mid := make([]int, ops(c)-2)
		of := func(first, last int) []int { return slices.Concat([]int{first}, mid, []int{last}) }
		return sight{what, []code{c, {one(y)}}, []times{row(of(1, 2), []int{1})}, []times{row(of(2, 1), []int{2})}}
	}
	for _, s := range []sight{
		two("old-read", load(0, y), load(1, z), fence(1, 2), one(x)),
		two("old-read and Rel", load(0, y), load(1, z), rel(one(x))),
		two("new-write by two fences", load(0, y), fence(1, 2), fence(2, 2), one(x)),
		two("new-write by a fence and Acq", load(0, y), fence(1, 3), acq(load(1, z)), one(x)),
		two("new-write by two reads with Weak", weak(load(0, y)), weak(load(1, z)), one(x)),
		two("control by two branches", load(0, y), ifZero(0, 2), ifZero(5, 3), one(x)),
		two("control by a branch and an index", load(0, y), ifZero(0, 2), by(5, load(1, z)), one(x)),
		two("control by two indices", load(0, y), by(0, load(1, z)), by(5, load(2, z)), one(x)),
		{"control by a branch, and a write", []code{{load(0, y), ifZero(0, 2), one(z), one(x)}, {one(y)}},
			[]times{row([]int{1, 2, 3}, []int{1}), row([]int{1, 3, 2}, []int{1})}, []times{row([]int{2, 3, 1}, []int{2}), row([]int{3, 2, 1}, []int{3})}},
		{"control by an index, and one of another write", []code{{load(0, y), by(0, one(z)), by(5, one(z)), one(x)}, {one(y)}},
			[]times{row([]int{1, 2, 4, 3}, []int{1})}, []times{row([]int{2, 3, 4, 1}, []int{2})}},
		{"old-write", []code{{one(y), one(z), fence(2, 2), one(x)}},
			[]times{row([]int{1, 2, 3}), row([]int{2, 1, 3})}, []times{row([]int{3, 1, 2}), row([]int{1, 3, 2}), row([]int{2, 3, 1})}},
		{"old-write and Rel", []code{{one(y), one(z), rel(one(x))}},
			[]times{row([]int{2, 1, 3})}, []times{row([]int{3, 1, 2}), row([]int{1, 3, 2})}},
		{"new-read by two fences", []code{{load(0, y), fence(1, 1), fence(2, 1), load(1, x)}, {one(x), one(y)}},
			[]times{row([]int{1, 0}, []int{2, 1})}, []times{row([]int{2, 0}, []int{1, 2})}},
		{"new-read by a fence and an ISB", []code{{load(0, y), fence(1, 3), isb(), load(1, x)}, {one(x), one(y)}},
			[]times{row([]int{1, 0}, []int{2, 1})}, []times{row([]int{2, 0}, []int{1, 2})}},
		{"new-read by two reads with Acq", []code{{acq(load(0, y)), acq(load(1, z)), load(2, x)}, {one(x), one(y)}},
			[]times{row([]int{1, 0, 0}, []int{2, 1})}, []times{row([]int{2, 0, 0}, []int{1, 2})}},
		{"new-read above release", []code{{acq(load(0, y)), acq(load(1, x))}, {one(x), one(y)}},
			[]times{row([]int{1, 0}, []int{2, 1})}, []times{row([]int{2, 0}, []int{1, 2})}},
		{"before above a pair", []code{{one(z), acq(load(0, y)), acq(load(1, z)), load(2, x)}, {one(x), one(y)}},
			[]times{row([]int{3, 1, 3, 0}, []int{2, 1})}, []times{row([]int{3, 2, 3, 0}, []int{1, 2})}},
	} {
		s.holds(t)
	}
}

// A store at its join is refused, one just above it is not. (No candidate has the
// first: it would have read what it is to write.)
func TestAtTheJoin(t *testing.T) {
	for _, x := range rights(t, code{load(0, x), one(x)}) {
		r := timed(t, x, 0, 1)
		if !view.Accepts(x, r) {
			t.Error("18.2: a store just above its join is refused")
		}
		for n := range r.Sources {
			r.Sources[n].From = r.Order[0]
		}
		if view.Accepts(x, r) {
			t.Error("18.2: a store at its join is accepted")
		}
	}
	sight{"a store behind a read", []code{{load(0, x), one(x)}, {two(x)}},
		[]times{row([]int{1, 2}, []int{1}), row([]int{0, 1}, []int{2}), row([]int{0, 2}, []int{1})}, nil}.holds(t)
}
