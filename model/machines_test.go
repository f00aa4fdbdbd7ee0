package model_test

import (
	"maps"
	"slices"
	"testing"

	"belated/api"
	"belated/cond"
	"belated/model"
)

func reads(i api.Ins) bool { return i.Op == api.OpLoad || i.Op == api.OpRmw }

func writes(i api.Ins) bool { return i.Op == api.OpStore || i.Op == api.OpRmw }

// spot is where an access lies, with what its Index register holds.
func spot(i api.Ins, index int) int {
	at := ((i.Off+index)%8 + 8) % 8
	return at - at%i.Size
}

// low is the low bytes of v, as a number from 0 on.
func low(v, size int) int {
	if size < 8 {
		v &= 1<<(8*size) - 1
	}
	return v
}

// laid is a value with some of its bytes, from an offset on, laid over.
func laid(v, off, size, by int) int {
	for b := range size {
		v = v&^(255<<(8*(off+b))) | by>>(8*b)&255<<(8*(off+b))
	}
	return v
}

func computed(fn, a, b int) int {
	return [...]int{api.FnAdd: a + b, api.FnSub: a - b, api.FnXor: a ^ b, api.FnAnd: a & b, api.FnOr: a | b, api.FnSwap: b}[fn]
}

// write is one that waits in a buffer.
type write struct{ loc, off, size, value int }

// state is where a machine stands: of interleavings one whose buffers are empty.
type state struct {
	at [api.MaxThreads]int
	api.Outcome
	buffer [api.MaxThreads][api.MaxOps]write
	held   [api.MaxThreads]int
}

// seen is what a thread sees in a location: memory, its own writes over it.
func (s *state) seen(thread, loc int) int {
	v := s.Mem[loc]
	for _, w := range s.buffer[thread][:s.held[thread]] {
		if w.loc == loc {
			v = laid(v, w.off, w.size, w.value)
		}
	}
	return v
}

// drained is a state behind the first write of a thread's buffer.
func (s state) drained(thread int) state {
	w := s.buffer[thread][0]
	s.Mem[w.loc] = laid(s.Mem[w.loc], w.off, w.size, w.value)
	copy(s.buffer[thread][:], s.buffer[thread][1:])
	s.buffer[thread][api.MaxOps-1] = write{}
	s.held[thread]--
	return s
}

// done is a state behind the next instruction of a thread; false, if it has to
// wait for its buffer.
func (s state) done(t api.Test, thread int) (state, bool) {
	i := t.Code[thread][s.at[thread]]
	if s.held[thread] > 0 && (i.Op == api.OpRmw || i.Op == api.OpFence) {
		return s, false
	}
	s.at[thread]++
	regs := &s.Regs[thread]
	held := func(reg int) int {
		if reg < 0 {
			return i.Imm
		}
		return regs[reg]
	}
	switch i.Op {
	case api.OpConst:
		regs[i.Dst] = i.Imm
	case api.OpMove:
		regs[i.Dst] = regs[i.A]
	case api.OpAlu:
		regs[i.Dst] = computed(i.Fn, regs[i.A], held(i.B))
	case api.OpBranch:
		if (regs[i.A] == 0) == i.Zero {
			s.at[thread] = i.To
		}
	}
	if !reads(i) && !writes(i) {
		return s, true
	}
	index := 0
	if i.Index >= 0 {
		index = regs[i.Index]
	}
	off := spot(i, index)
	old, value := low(s.seen(thread, i.Loc)>>(8*off), i.Size), held(i.A)
	if reads(i) {
		regs[i.Dst] = old
	}
	if i.Op == api.OpRmw {
		value = computed(i.Fn, old, value)
	}
	if writes(i) {
		s.buffer[thread][s.held[thread]] = write{i.Loc, off, i.Size, low(value, i.Size)}
		s.held[thread]++
	}
	if i.Op == api.OpRmw {
		s = s.drained(thread)
	}
	return s, true
}

// walks is all outcomes of threads that go on one instruction at a time, with
// buffers between them and memory, or without.
func walks(t api.Test, buffers bool) []api.Outcome {
	out, seen := map[api.Outcome]bool{}, map[state]bool{}
	var from func(s state)
	from = func(s state) {
		if seen[s] {
			return
		}
		seen[s] = true
		end := true
		for thread, c := range t.Code {
			if s.held[thread] > 0 {
				end = false
				from(s.drained(thread))
			}
			if s.at[thread] == len(c) {
				continue
			}
			end = false
			next, ok := s.done(t, thread)
			if ok && !buffers && next.held[thread] > 0 {
				next = next.drained(thread)
			}
			if ok {
				from(next)
			}
		}
		if end {
			out[s.Outcome] = true
		}
	}
	from(state{Outcome: api.Outcome{Regs: t.Regs, Mem: t.Init}})
	return cond.Sort(slices.Collect(maps.Keys(out))...)
}

func contains(all, some []api.Outcome) bool {
	return !slices.ContainsFunc(some, func(o api.Outcome) bool { return !slices.Contains(all, o) })
}

// 13.1, 13.4: the text of 0 allows just what interleavings come to, that of x86
// what threads with store buffers do; what interleavings come to is allowed.
func TestMachines(t *testing.T) {
	t.Parallel()
	for n, arch := range every {
		more, buffered := 0, 0
		many(t, 300+n, 3, arch, func(x api.Test) {
			inter, own := walks(x, false), allowed(t, x)
			if got := allowed(t, x, model.Text(0)); !slices.Equal(got, inter) {
				t.Fatalf("13.1: interleavings of %+v:\n got %v\nwant %v", x, got, inter)
			}
			if !contains(own, inter) {
				t.Fatalf("13.4: not all interleavings of %+v are allowed:\n%v\n%v", x, own, inter)
			}
			want := walks(x, true)
			if got := allowed(t, x, model.Text(api.X86)); arch == api.X86 && !slices.Equal(got, want) {
				t.Fatalf("13.1: store buffers of %+v:\n got %v\nwant %v", x, got, want)
			}
			if len(own) > len(inter) {
				more++
			}
			if len(want) > len(inter) {
				buffered++
			}
		})
		if more < 10 || arch == api.X86 && buffered < 10 {
			t.Errorf("drawn too thin: on %d only %d tests allow more than interleavings, %d with buffers", arch, more, buffered)
		}
	}
}
