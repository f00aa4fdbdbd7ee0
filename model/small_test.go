package model_test

import (
	"slices"
	"testing"

	"belated/api"
	"belated/model"
)

// kinds are the memory operations of small tests at a location, as an
// architecture has them; a read goes to that register, a write is of the other.
func kinds(arch, loc, dst, a int) code {
	out := code{load(dst, loc), store(a, loc)}
	switch arch {
	case api.X86:
		return append(out, acq(release(rmw(api.FnAdd, a, a, loc))))
	case api.RISCV:
		return append(out, swap(dst, a, loc), acq(swap(dst, a, loc)), release(add(dst, a, loc)))
	}
	return append(out, acq(load(dst, loc)), weak(load(dst, loc)), release(store(a, loc)))
}

// links are codes of two operations: with nothing between them, with each
// fence, and, if the first one reads, with each way to hang on that.
func links(arch int, a, b api.Ins) []code {
	out := []code{{a, b}}
	for pred := 1; pred <= 3; pred++ {
		for succ := 1; succ <= 3; succ++ {
			out = append(out, code{a, fence(pred, succ), b})
		}
	}
	if reads(a) {
		out = append(out, code{a, move(5, a.Dst), xor(5, 5), by(5, b)}, code{a, ifZero(a.Dst, 2), b}, code{a, ifZero(a.Dst, 3), b})
		if arch == api.ARM {
			out = append(out, code{a, ifZero(a.Dst, 2), isb(), b})
		}
		if b.Op == api.OpStore {
			b.A = 5
			out = append(out, code{a, move(5, a.Dst), aluImm(api.FnOr, 5, 5, 4), b})
		}
	}
	return slices.DeleteFunc(out, func(c code) bool { return !isRight(arch, threads(c)) })
}

// small hands out tests of two threads with two operations each, all that the
// kinds and links make: one at x, then one at y, and the other way round. Of
// these every share'th is handed out.
func small(arch, share int, each func(test api.Test)) {
	var codes [2][]code
	for thread := range codes {
		reg := 7 - thread
		for _, a := range kinds(arch, thread, 0, reg) {
			for _, b := range kinds(arch, 1-thread, 1, reg) {
				codes[thread] = append(codes[thread], links(arch, a, b)...)
			}
		}
	}
	n := 0
	for _, c := range codes[0] {
		for _, other := range codes[1] {
			if n%share == 0 {
				each(on(arch, c, other))
			}
			n++
		}
	}
}

// 13.1 to 13.4, of small tests: what is allowed is what machines and rows come
// to, and what interleavings come to is.
func TestSmallTests(t *testing.T) {
	t.Parallel()
	for _, arch := range every {
		n, more := 0, 0
		small(arch, []int{api.X86: 1, api.RISCV: 47, api.ARM: 13}[arch], func(test api.Test) {
			n++
			got, inter := allowed(t, test), walks(test, false)
			var want []api.Outcome
			if arch == api.X86 {
				want = walks(test, true)
			} else {
				want = outcomesOfRows(test)
			}
			if !slices.Equal(got, want) {
				t.Fatalf("13.1: of %+v:\n got %v\nwant %v", test, got, want)
			}
			if !contains(got, inter) || !slices.Equal(allowed(t, test, model.Text(0)), inter) {
				t.Fatalf("13.4: of %+v:\n got %v\ninterleavings %v", test, got, inter)
			}
			if len(got) > len(inter) {
				more++
			}
		})
		if n < 1000 || more < 20 {
			t.Errorf("on %d %d tests, of which %d allow more than interleavings", arch, n, more)
		}
	}
}
