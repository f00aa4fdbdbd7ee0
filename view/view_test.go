package view_test

import (
	"slices"
	"testing"

	"belated/api"
	"belated/cand"
	"belated/cond"
	"belated/view"
)

// offered is whether a test is offered, by all three calls.
func offered(t *testing.T, what string, x api.Test, want bool) {
	t.Helper()
	if got := view.Plain(x); got != want {
		t.Errorf("18.1: %s: Plain is %v: %+v", what, got, x)
	}
	l, e := view.Outcomes(x)
	if want && (e != api.OK || len(l) == 0) || !want && (e != api.ErrEngine || len(l) > 0) {
		t.Errorf("18.2: %s: Outcomes are %v, error %d: %+v", what, l, e, x)
	}
	accepted := slices.ContainsFunc(cand.Runs(x), func(r api.Run) bool { return view.Accepts(x, r) })
	if accepted != want {
		t.Errorf("18.2: %s: a Run is accepted: %v: %+v", what, accepted, x)
	}
}

// 18.1: the architecture.
func TestPlainArchitectures(t *testing.T) {
	for _, arch := range []int{-2, -1, 0, api.X86, api.RISCV, api.ARM, 4, 5, 1<<32 + api.RISCV, -api.ARM} {
		want := arch == 2 || arch == 3
		offered(t, "two threads", on(arch, code{one(x), load(0, y)}, code{load(0, x), fence(3, 3), one(y)}), want)
		offered(t, "no memory operation", on(arch, code{konst(0, 1)}), want)
		offered(t, "no instruction", on(arch, nil, nil, nil), want)
		if got := view.Plain(on(arch)); got != want {
			t.Errorf("18.1: no thread of architecture %d: Plain is %v", arch, got)
		}
	}
}

// 18.1: each access, of each size, at each place of each thread.
func TestPlainAccesses(t *testing.T) {
	for _, arch := range []int{api.RISCV, api.ARM} {
		for _, i := range []api.Ins{load(0, x), acq(load(0, y)), weak(load(0, z)), by(7, load(0, x)), store(7, x), put(y, 5), rel(store(6, z)), by(0, put(x, 1)), rmw(api.FnSwap, 0, 7, x), marked(true, false, true, rmw(api.FnAdd, 0, 6, z))} {
			for _, size := range []int{1, 2, 4, 8} {
				for place := range 9 {
					codes := []code{{konst(1, 1), load(2, x), aluImm(api.FnAdd, 3, 2, 1)}, {one(y), fence(3, 3), one(z)}, {konst(1, 2), move(2, 1), aluImm(api.FnAdd, 3, 2, 1)}}
					codes[place/3][place%3] = part(0, size, i)
					offered(t, "an access", on(arch, codes...), size == 8 && i.Op != api.OpRmw)
				}
			}
		}
		for _, c := range []code{nil, {konst(0, 1)}, {move(0, 1)}, {alu(api.FnOr, 0, 1, 2)}, {fence(1, 2)}, {isb()}, {ifZero(0, 1)}, {unless(0, 1)}} {
			offered(t, "an instruction that is no access", on(arch, c), true)
			offered(t, "an instruction that is no access, behind others", on(arch, code{one(x)}, code{load(0, x)}, c), true)
		}
		offered(t, "an OpRmw on a path that is not gone", on(arch, code{ifZero(0, 2), rmw(api.FnAdd, 1, 7, x), load(0, x)}), false)
		offered(t, "an access at an offset", on(arch, code{part(4, 4, load(0, x))}), false)
	}
}

// 18.1: of a Plain test Order is the row of messages, and the times those of it:
// from 1 on.
func TestMessages(t *testing.T) {
	for _, x := range rights(t, code{one(x), fence(2, 2), one(y), fence(2, 2), one(z)}) {
		runs := cand.Runs(x)
		if len(runs) != 6 {
			t.Errorf("18.1: %d Runs", len(runs))
		}
		for _, r := range runs {
			if got := view.Accepts(x, r); got != slices.Equal(timesOf(r), []int{1, 2, 3}) {
				t.Errorf("18.1: of the Order %v Accepts is %v", r.Order, got)
			}
		}
	}
	for _, x := range rights(t, code{load(0, x), fence(3, 3), load(1, x)}, code{one(x)}) {
		for _, r := range cand.Runs(x) {
			if got := view.Accepts(x, r); got != (r.Outcome.Regs[0][0] == 0 || r.Outcome.Regs[0][1] == 1) {
				t.Errorf("18.1: with what was there at first as time 0: %v is %v", r.Outcome.Regs[0], got)
			}
		}
	}
}

// has is whether an outcome holds what is asked for: thread, register, value, ..
func has(o api.Outcome, l ...int) bool {
	for n := 0; n < len(l); n += 3 {
		if o.Regs[l[n]][l[n+1]] != l[n+2] {
			return false
		}
	}
	return true
}

// asks is whether a Run that comes to what is asked for is there, is accepted, and
// is among the Outcomes.
func asks(t *testing.T, what string, codes []code, there, want bool, l ...int) {
	t.Helper()
	for _, x := range rights(t, codes...) {
		is, accepted := false, false
		for _, r := range cand.Runs(x) {
			if has(r.Outcome, l...) {
				is, accepted = true, accepted || view.Accepts(x, r)
			}
		}
		all, e := view.Outcomes(x)
		among := slices.ContainsFunc(all, func(o api.Outcome) bool { return has(o, l...) })
		if is != there || accepted != want || among != want || e != api.OK {
			t.Errorf("18.2: %s: there is %v, accepted %v, among the outcomes %v, error %d", what, is, accepted, among, e)
		}
	}
}

// The chapter's table.
func TestChapter(t *testing.T) {
	asks(t, "message passing", []code{{one(x), one(y)}, {load(0, y), load(1, x)}}, true, true, 1, 0, 1, 1, 1, 0)
	asks(t, "with fences", []code{{one(x), fence(2, 2), one(y)}, {load(0, y), fence(1, 1), load(1, x)}}, true, false, 1, 0, 1, 1, 1, 0)
	asks(t, "with the fences of Arm", []code{{one(x), fence(2, 2), one(y)}, {load(0, y), fence(1, 3), load(1, x)}}, true, false, 1, 0, 1, 1, 1, 0)
	asks(t, "out of thin air", []code{{load(0, x), store(0, y)}, {load(1, y), store(1, x)}}, false, false, 0, 0, 1, 1, 1, 1)
	for _, x := range rights(t, code{one(x), load(0, x), store(0, y)}) {
		if r := timed(t, x, 2, 2, 1); !view.Accepts(x, r) || r.Outcome.Regs[0][0] != 1 || r.Outcome.Mem != (locs{1, 1}) {
			t.Errorf("18.2: what was forwarded: %+v", r)
		}
	}
}

// 18.2: Outcomes are those of the Runs that the model accepts, rising, each once;
// of a test that is just not Plain there are none.
func TestOutcomes(t *testing.T) {
	t.Parallel()
	d := dice(182)
	fewer, equal := 0, 0
	for n := range 2000 {
		x := d.drawn(n)
		var want, all []api.Outcome
		for _, r := range cand.Runs(x) {
			all = append(all, r.Outcome)
			if accepts(x, r) {
				want = append(want, r.Outcome)
			}
		}
		got, e := view.Outcomes(x)
		if e != api.OK || !slices.Equal(got, cond.Sort(want...)) {
			t.Fatalf("18.2: Outcomes are %v, error %d, want %v: %+v", got, e, want, x)
		}
		if len(cond.Sort(all...)) > len(got) {
			fewer++
		}
		if len(want) > len(got) {
			equal++
		}
		unplain(t, d.spoiled(x))
	}
	if fewer < 80 || equal < 500 {
		t.Errorf("drawn too thin: %d tests have fewer outcomes than Runs come to, %d Runs that come to one", fewer, equal)
	}
}

// unplain is whether a test that is not Plain is not offered.
func unplain(t *testing.T, x api.Test) {
	t.Helper()
	got, e := view.Outcomes(x)
	if view.Plain(x) || len(got) > 0 || e != api.ErrEngine {
		t.Fatalf("18.2: not Plain: Plain is %v, Outcomes %v, error %d: %+v", view.Plain(x), got, e, x)
	}
	for _, r := range cand.Runs(x) {
		if view.Accepts(x, r) {
			t.Fatalf("18.2: not Plain, but a Run is accepted: %+v", x)
		}
	}
}

// spoiled is a Plain test with one thing that makes it not Plain.
func (d *dice) spoiled(x api.Test) api.Test {
	thread := d.below(len(x.Code))
	var at []int
	for n, i := range x.Code[thread] {
		if reads(i) || writes(i) {
			at = append(at, n)
		}
	}
	if len(at) == 0 || d.below(4) == 0 {
		x.Arch = d.among([]int{0, api.X86, -1, 4})
		return x
	}
	x.Code = slices.Clone(x.Code)
	x.Code[thread] = slices.Clone(x.Code[thread])
	n := d.among(at)
	x.Code[thread][n] = part(0, d.among([]int{1, 2, 4}), x.Code[thread][n])
	if d.flag() {
		x.Code[thread][n] = rmw(api.FnSwap, 0, 1, x.Code[thread][n].Loc)
	}
	return x
}

// copied is a test, and a Run, that share nothing with those that are handed in.
func copied(x api.Test) api.Test {
	codes := make([]code, len(x.Code))
	for thread, c := range x.Code {
		codes[thread] = slices.Clone(c)
	}
	x.Code, x.Cond = codes, slices.Clone(x.Cond)
	return x
}

func sameTest(a, b api.Test) bool {
	return a.Arch == b.Arch && a.Name == b.Name && a.Init == b.Init && a.Regs == b.Regs && a.Quant == b.Quant &&
		slices.EqualFunc(a.Code, b.Code, func(a, b code) bool { return slices.Equal(a, b) }) && slices.Equal(a.Cond, b.Cond)
}

func sameRun(a, b api.Run) bool {
	return a.Paths == b.Paths && slices.Equal(a.Events, b.Events) && slices.Equal(a.Order, b.Order) && slices.Equal(a.Sources, b.Sources) && a.Outcome == b.Outcome
}

// R3: what is handed in stays as it was, with the room behind it; what is answered
// is new memory.
func TestMemory(t *testing.T) {
	d := dice(183)
	for n := range 300 {
		x := d.drawn(n)
		for thread := range x.Code {
			x.Code[thread] = append(x.Code[thread], konst(0, 77))[:len(x.Code[thread])]
		}
		was := copied(x)
		first, _ := view.Outcomes(x)
		kept := slices.Clone(first)
		for _, o := range []int{0, len(first) - 1} {
			first[o].Mem[0]++
		}
		first = append(first, api.Outcome{})
		if again, _ := view.Outcomes(x); !slices.Equal(again, kept) {
			t.Fatalf("R3: Outcomes turned by what was done to those told: %+v", x)
		}
		for _, r := range cand.Runs(x)[:1] {
			r.Order = append(r.Order, 77)[:len(r.Order)]
			like := api.Run{Paths: r.Paths, Events: slices.Clone(r.Events), Order: slices.Clone(r.Order), Sources: slices.Clone(r.Sources), Outcome: r.Outcome}
			is := view.Accepts(x, r)
			if is != view.Accepts(was, like) || !sameRun(r, like) || r.Order[:len(r.Order)+1][len(r.Order)] != 77 {
				t.Fatalf("R3: a Run is turned: %+v", r)
			}
		}
		view.Plain(x)
		if !sameTest(x, was) {
			t.Fatalf("R3: a test is turned: %+v", x)
		}
		for _, c := range x.Code {
			if c[:len(c)+1][len(c)] != konst(0, 77) {
				t.Fatal("R3: the room behind a code is turned")
			}
		}
	}
}
