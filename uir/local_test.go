package uir

import (
	"encoding/binary"
	"math"
	"slices"
	"testing"

	"belated/api"
)

type file = [api.MaxRegs]int

// told is all that Local tells.
type told struct {
	out    file
	events []api.Event
	path   []int
	e      api.Errno
}

func local(code []api.Ins, regs file, reads ...int) told {
	out, events, path, e := Local(code, regs, reads...)
	return told{out, events, path, e}
}

func (a told) is(b told) bool {
	return a.out == b.out && slices.Equal(a.events, b.events) && slices.Equal(a.path, b.path) && a.e == b.e
}

func same(t *testing.T, what string, got, want told) {
	t.Helper()
	if !got.is(want) {
		t.Errorf("%s:\n got %+v\nwant %+v", what, got, want)
	}
}

// cut is the low bytes of v, as a number.
func cut(v, size int) int {
	var b [8]byte
	binary.LittleEndian.PutUint64(b[:], uint64(v))
	clear(b[size:])
	return int(binary.LittleEndian.Uint64(b[:]))
}

// bytesAt is the mask of an access, found byte by byte: the one of those that
// its size parts the window into which has the byte off + index.
func bytesAt(off, index, size int) int {
	spot := ((off%8+index%8)%8 + 8) % 8
	mask := 0
	for b := range 8 {
		if b/size == spot/size {
			mask |= 1 << b
		}
	}
	return mask
}

// model runs a right code by a plain rule of its own.
func model(code []api.Ins, regs file, reads []int) told {
	var events []api.Event
	var path []int
	for at := 0; at < len(code); {
		i := code[at]
		ev := api.Event{Pos: len(path), At: at, Op: i.Op, Acq: i.Acq, Weak: i.Weak, Rel: i.Rel, Pred: i.Pred, Succ: i.Succ}
		ahead := regs
		of := func(reg, other int) int {
			if reg < 0 {
				return other
			}
			return ahead[reg]
		}
		next := at + 1
		if i.Op == api.OpLoad || i.Op == api.OpRmw {
			if len(reads) == 0 {
				return told{e: api.ErrEnd}
			}
			ev.Reads, ev.Old = true, cut(reads[0], i.Size)
			regs[i.Dst], reads = ev.Old, reads[1:]
		}
		switch i.Op {
		case api.OpConst:
			regs[i.Dst] = i.Imm
		case api.OpMove:
			regs[i.Dst] = ahead[i.A]
		case api.OpAlu:
			regs[i.Dst] = computed(i.Fn, ahead[i.A], of(i.B, i.Imm))
		case api.OpStore:
			ev.Writes, ev.New = true, cut(of(i.A, i.Imm), i.Size)
		case api.OpRmw:
			ev.Writes, ev.New = true, cut(ahead[i.A], i.Size)
			if i.Fn == api.FnAdd {
				ev.New = cut(ev.Old+ahead[i.A], i.Size)
			}
		case api.OpBranch:
			if i.Zero && ahead[i.A] == 0 || !i.Zero && ahead[i.A] != 0 {
				next = i.To
			}
		}
		if ev.Reads || ev.Writes {
			ev.Span = api.Span{Loc: i.Loc, Mask: bytesAt(i.Off, of(i.Index, 0), i.Size)}
		}
		if ev.Reads || ev.Writes || i.Op == api.OpFence || i.Op == api.OpIsb {
			events = append(events, ev)
		}
		path = append(path, at)
		at = next
	}
	return told{regs, events, path, api.OK}
}

func computed(fn, a, b int) int {
	return [...]int{api.FnAdd: a + b, api.FnSub: a - b, api.FnXor: a ^ b, api.FnAnd: a & b, api.FnOr: a | b}[fn]
}

// 3.1, 3.4: what each instruction does.

func TestLocalOfRegisters(t *testing.T) {
	start := file{10, 11, 12, 0, -1, math.MaxInt, math.MinInt, 17}
	for _, x := range []struct {
		what     string
		i        api.Ins
		reg, val int
	}{
		{"OpConst", konst(0, 5), 0, 5}, {"OpConst of register 7", konst(7, math.MinInt), 7, math.MinInt}, {"OpConst 0", konst(1, 0), 1, 0},
		{"OpMove", move(0, 7), 0, 17}, {"OpMove to itself", move(2, 2), 2, 12}, {"OpMove of what is below 0", move(7, 4), 7, -1},
		{"FnAdd", alu(api.FnAdd, 3, 0, 1), 3, 21}, {"FnAdd that wraps", aluImm(api.FnAdd, 0, 5, 1), 0, math.MinInt}, {"FnAdd to itself", alu(api.FnAdd, 0, 0, 0), 0, 20},
		{"FnSub", alu(api.FnSub, 3, 0, 1), 3, -1}, {"FnSub that wraps", aluImm(api.FnSub, 0, 6, 1), 0, math.MaxInt}, {"FnSub of an Imm", aluImm(api.FnSub, 7, 7, 20), 7, -3},
		{"FnXor", alu(api.FnXor, 3, 0, 2), 3, 6}, {"FnXor with itself", alu(api.FnXor, 4, 4, 4), 4, 0},
		{"FnAnd", alu(api.FnAnd, 3, 0, 2), 3, 8}, {"FnAnd of an Imm", aluImm(api.FnAnd, 4, 4, 255), 4, 255},
		{"FnOr", alu(api.FnOr, 3, 0, 1), 3, 11}, {"FnOr of Imm 0", aluImm(api.FnOr, 3, 7, 0), 3, 17}, {"OpAlu of register 0 as B", alu(api.FnAdd, 3, 1, 0), 3, 21},
	} {
		want := told{out: start, path: []int{0}}
		want.out[x.reg] = x.val
		same(t, x.what, local([]api.Ins{x.i}, start), want)
	}
}

func TestLocalOfOneEvent(t *testing.T) {
	start := file{0x1234567890ABCDEF, 3, -3, 0xFFFF, -1, 0, 0, 7}
	span := func(loc, mask int) api.Span { return api.Span{Loc: loc, Mask: mask} }
	for _, x := range []struct {
		what     string
		i        api.Ins
		read     int
		ev       api.Event
		reg, val int
	}{
		{"a load of 8", load(5, 1, 0, 8), -7, api.Event{Op: 4, Span: span(1, 255), Reads: true, Old: -7}, 5, -7},
		{"a load of 4, cut", load(5, 2, 4, 4), -1, api.Event{Op: 4, Span: span(2, 240), Reads: true, Old: 1<<32 - 1}, 5, 1<<32 - 1},
		{"a load of 2, cut", acq(load(5, 0, 2, 2)), 0x12345, api.Event{Op: 4, Span: span(0, 12), Reads: true, Old: 0x2345, Acq: true}, 5, 0x2345},
		{"a load of 1, cut", weak(load(5, 0, 7, 1)), 0x1FF, api.Event{Op: 4, Span: span(0, 128), Reads: true, Old: 255, Weak: true}, 5, 255},
		{"a load of its low bytes, wherever it lies", load(5, 0, 4, 4), 0x1111111122222222, api.Event{Op: 4, Span: span(0, 240), Reads: true, Old: 0x22222222}, 5, 0x22222222},
		{"an Index", by(1, load(5, 0, 4, 1)), 9, api.Event{Op: 4, Span: span(0, 128), Reads: true, Old: 9}, 5, 9},
		{"an Index that goes round", by(7, load(5, 0, 4, 2)), 9, api.Event{Op: 4, Span: span(0, 12), Reads: true, Old: 9}, 5, 9},
		{"an Index below 0", by(2, load(5, 0, 0, 2)), 9, api.Event{Op: 4, Span: span(0, 48), Reads: true, Old: 9}, 5, 9},
		{"an Index with a size of 8", by(1, load(5, 0, 0, 8)), 9, api.Event{Op: 4, Span: span(0, 255), Reads: true, Old: 9}, 5, 9},
		{"an Index that is Dst", by(1, load(1, 0, 0, 1)), 6, api.Event{Op: 4, Span: span(0, 8), Reads: true, Old: 6}, 1, 6},
		{"a store of 8", store(2, 0, 0, 8), 0, api.Event{Op: 5, Span: span(0, 255), Writes: true, New: -3}, 0, start[0]},
		{"a store of 4, cut", store(0, 1, 0, 4), 0, api.Event{Op: 5, Span: span(1, 15), Writes: true, New: 0x90ABCDEF}, 0, start[0]},
		{"a store of 2, cut", rel(store(4, 2, 6, 2)), 0, api.Event{Op: 5, Span: span(2, 192), Writes: true, New: 65535, Rel: true}, 0, start[0]},
		{"a store of 1, cut", by(1, store(0, 2, 0, 1)), 0, api.Event{Op: 5, Span: span(2, 8), Writes: true, New: 0xEF}, 0, start[0]},
		{"a store of an Imm", storeImm(-2, 0, 5, 1), 0, api.Event{Op: 5, Span: span(0, 32), Writes: true, New: 254}, 0, start[0]},
		{"a store of an Imm of 8", storeImm(math.MinInt, 0, 0, 8), 0, api.Event{Op: 5, Span: span(0, 255), Writes: true, New: math.MinInt}, 0, start[0]},
		{"a swap", rmw(api.FnSwap, 5, 3, 0, 0, 8), 4, api.Event{Op: 6, Span: span(0, 255), Reads: true, Writes: true, Old: 4, New: 0xFFFF}, 5, 4},
		{"a swap of 1, cut", rmw(api.FnSwap, 5, 3, 0, 1, 1), 0x104, api.Event{Op: 6, Span: span(0, 2), Reads: true, Writes: true, Old: 4, New: 255}, 5, 4},
		{"a swap with Dst", acq(rmw(api.FnSwap, 3, 3, 0, 0, 8)), 4, api.Event{Op: 6, Span: span(0, 255), Reads: true, Writes: true, Old: 4, New: 0xFFFF, Acq: true}, 3, 4},
		{"a sum", rel(rmw(api.FnAdd, 5, 1, 1, 0, 8)), 4, api.Event{Op: 6, Span: span(1, 255), Reads: true, Writes: true, Old: 4, New: 7, Rel: true}, 5, 4},
		{"a sum of 2, cut", rmw(api.FnAdd, 5, 1, 1, 0, 2), 0x1FFFE, api.Event{Op: 6, Span: span(1, 3), Reads: true, Writes: true, Old: 0xFFFE, New: 1}, 5, 0xFFFE},
		{"a sum with Dst", acq(rel(rmw(api.FnAdd, 7, 7, 1, 0, 4))), 5, api.Event{Op: 6, Span: span(1, 15), Reads: true, Writes: true, Old: 5, New: 12, Acq: true, Rel: true}, 7, 5},
		{"a sum at an Index that is Dst and A", by(1, rmw(api.FnAdd, 1, 1, 2, 1, 1)), 8, api.Event{Op: 6, Span: span(2, 16), Reads: true, Writes: true, Old: 8, New: 11}, 1, 8},
		{"a fence", fence(2, 1), 0, api.Event{Op: 7, Pred: 2, Succ: 1}, 0, start[0]},
		{"a full fence", fence(3, 3), 0, api.Event{Op: 7, Pred: 3, Succ: 3}, 0, start[0]},
		{"an OpIsb", isb(), 0, api.Event{Op: 8}, 0, start[0]},
	} {
		want := told{out: start, events: []api.Event{x.ev}, path: []int{0}}
		want.out[x.reg] = x.val
		same(t, x.what, local([]api.Ins{x.i}, start, x.read), want)
	}
}

func TestLocalOfBranches(t *testing.T) {
	// Behind the branch each instruction adds a bit of its own to r7.
	bit := func(n int) api.Ins { return aluImm(api.FnOr, 7, 7, 1<<n) }
	for _, x := range []struct {
		what   string
		branch api.Ins
		r0     int
		r7     int
		path   []int
	}{
		{"if zero, and it is", ifZero(0, 3), 0, 4, []int{0, 3}},
		{"if zero, and it is not", ifZero(0, 3), 1, 7, []int{0, 1, 2, 3}},
		{"if not zero, and it is", unless(0, 3), 0, 7, []int{0, 1, 2, 3}},
		{"if not zero, and it is not", unless(0, 3), -1, 4, []int{0, 3}},
		{"if not zero, of a high bit", unless(0, 3), math.MinInt, 4, []int{0, 3}},
		{"to the next, gone", ifZero(0, 1), 0, 7, []int{0, 1, 2, 3}},
		{"to the next, not gone", ifZero(0, 1), 1, 7, []int{0, 1, 2, 3}},
		{"to the end, gone", unless(0, 4), 1, 0, []int{0}},
		{"to the end, not gone", unless(0, 4), 0, 7, []int{0, 1, 2, 3}},
	} {
		got := local([]api.Ins{x.branch, bit(0), bit(1), bit(2)}, file{x.r0})
		same(t, x.what, got, told{out: file{x.r0, 7: x.r7}, path: x.path})
	}
}

// 3.4: the events' places count along the path, what was read is used up.
func TestLocalAlongAPath(t *testing.T) {
	code := []api.Ins{load(1, 0, 0, 8), unless(1, 4), storeImm(1, 1, 0, 8), fence(1, 2), load(2, 1, 0, 4), isb(), ifZero(2, 8), rmw(api.FnAdd, 3, 2, 2, 0, 8)}
	x := api.Event{Op: api.OpLoad, Span: api.Span{Mask: 255}, Reads: true}
	y := api.Event{Op: api.OpLoad, Span: api.Span{Loc: 1, Mask: 15}, Reads: true}
	at := func(ev api.Event, pos, at, old int) api.Event {
		ev.Pos, ev.At, ev.Old = pos, at, old
		return ev
	}
	sum := api.Event{Pos: 5, At: 7, Op: api.OpRmw, Span: api.Span{Loc: 2, Mask: 255}, Reads: true, Writes: true, Old: 30, New: 50}
	leap := told{file{1: 10, 2: 20, 3: 30}, []api.Event{at(x, 0, 0, 10), at(y, 2, 4, 20), {Pos: 3, At: 5, Op: api.OpIsb}, sum}, []int{0, 1, 4, 5, 6, 7}, api.OK}
	same(t, "over a part", local(code, file{}, 10, 20, 30), leap)
	same(t, "more reads than are used", local(code, file{}, 10, 20, 30, 40, 50), leap)
	w := api.Event{Pos: 2, At: 2, Op: api.OpStore, Span: api.Span{Loc: 1, Mask: 255}, Writes: true, New: 1}
	short := told{file{}, []api.Event{at(x, 0, 0, 0), w, {Pos: 3, At: 3, Op: api.OpFence, Pred: 1, Succ: 2}, at(y, 4, 4, 0), {Pos: 5, At: 5, Op: api.OpIsb}}, []int{0, 1, 2, 3, 4, 5, 6}, api.OK}
	same(t, "a read that is not gone through takes none", local(code, file{}, 0, 1<<32), short)
}

func TestLocalOfTheTable(t *testing.T) {
	r1, r2 := load(1, 0, 0, 8), api.Event{Op: api.OpLoad, Span: api.Span{Mask: 255}, Reads: true, Old: 5}
	written := api.Event{Pos: 2, At: 2, Op: api.OpStore, Span: api.Span{Mask: 255}, Writes: true, New: 6}
	same(t, "a load, a sum, a store", local([]api.Ins{r1, aluImm(api.FnAdd, 2, 1, 1), store(2, 0, 0, 8)}, file{}, 5),
		told{file{1: 5, 2: 6}, []api.Event{r2, written}, []int{0, 1, 2}, api.OK})
	same(t, "a branch", local([]api.Ins{ifZero(0, 2), konst(1, 7), konst(2, 8)}, file{}), told{file{2: 8}, nil, []int{0, 2}, api.OK})
	same(t, "without reads", local([]api.Ins{r1}, file{}), told{e: api.ErrEnd})
}

func TestLocalOfNothing(t *testing.T) {
	start := file{1, 2, 3, 4, 5, 6, 7, math.MinInt}
	same(t, "a nil code", local(nil, start), told{out: start})
	same(t, "an empty code", local([]api.Ins{}, start, 1, 2), told{out: start})
}

// 3.4: what is refused tells nothing else.
func TestLocalThatIsRefused(t *testing.T) {
	start := file{1, 2, 3, 4, 5, 6, 7, 8}
	ld := load(1, 0, 0, 8)
	for _, x := range []struct {
		what  string
		code  []api.Ins
		reads []int
		e     api.Errno
	}{
		{"too long", times(9, isb()), nil, api.ErrArg},
		{"a wrong instruction", []api.Ins{konst(0, 1), bare(0)}, nil, api.ErrArg},
		{"a wrong one that is not gone through", []api.Ins{konst(0, 0), ifZero(0, 3), load(0, 0, 0, 3)}, nil, api.ErrArg},
		{"a wrong target", []api.Ins{ifZero(0, 0)}, nil, api.ErrArg},
		{"a target behind the end", []api.Ins{unless(0, 2)}, nil, api.ErrArg},
		{"too many operations", times(7, ld), []int{1, 2, 3, 4, 5, 6, 7}, api.ErrArg},
		{"too many branches", times(4, ifZero(0, 4)), nil, api.ErrArg},
		{"wrong, and without reads", []api.Ins{ld, bare(0)}, nil, api.ErrArg},
		{"a load without reads", []api.Ins{ld}, nil, api.ErrEnd},
		{"no reads, a list that is not nil", []api.Ins{ld}, []int{}, api.ErrEnd},
		{"an OpRmw without reads", []api.Ins{fence(1, 1), rmw(api.FnSwap, 0, 0, 0, 0, 8)}, nil, api.ErrEnd},
		{"the last read is missing", []api.Ins{konst(0, 1), ld, storeImm(1, 0, 0, 8), ld, rmw(api.FnAdd, 0, 0, 0, 0, 8)}, []int{1, 2}, api.ErrEnd},
	} {
		same(t, x.what, local(x.code, start, x.reads...), told{e: x.e})
	}
}

// drawn is a right code of at most n instructions.
func (d *dice) drawn(n int) []api.Ins {
	n = d.below(n + 1)
	var code []api.Ins
	for len(code) < n {
		more := append(code, d.ins(len(code), n))
		if Ops(more...) <= api.MaxOps && Branches(more...) <= api.MaxBranches {
			code = more
		}
	}
	return code
}

func (d *dice) ins(at, n int) api.Ins {
	size, imm := d.among(sizes), d.among(odd)
	reg := func() int { return d.below(4) }
	touch := func(i api.Ins) api.Ins {
		i.Loc, i.Size, i.Off, i.Index = d.below(3), size, d.among(offsets[size]), reg()-1
		return i
	}
	switch d.below(14) {
	case 0:
		return konst(reg(), imm)
	case 1:
		return move(reg(), reg())
	case 2:
		return alu(d.below(5)+1, reg(), reg(), reg())
	case 3:
		return aluImm(d.below(5)+1, reg(), reg(), imm)
	case 4:
		return touch(load(reg(), 0, 0, 0))
	case 5:
		return acq(touch(load(reg(), 0, 0, 0)))
	case 6:
		return touch(store(reg(), 0, 0, 0))
	case 7:
		return rel(touch(storeImm(imm, 0, 0, 0)))
	case 8:
		return touch(rmw(d.among([]int{api.FnAdd, api.FnSwap}), reg(), reg(), 0, 0, 0))
	case 9:
		return fence(d.below(3)+1, d.below(3)+1)
	case 10:
		return isb()
	case 11:
		return weak(touch(load(reg(), 0, 0, 0)))
	case 12:
		return ifZero(reg(), at+1+d.below(n-at))
	}
	return unless(reg(), at+1+d.below(n-at))
}

func (d *dice) values(n int) []int {
	l := make([]int, n)
	for i := range l {
		l[i] = d.among(odd) * (d.below(3) - 1)
	}
	return l
}

// many hands codes with registers and reads to f, the same ones at each run.
func many(t *testing.T, f func(d *dice, code []api.Ins, regs file, reads []int)) {
	d := dice(2026)
	for range 20000 {
		code := d.drawn(api.MaxCode)
		if _, _, e := Check(code); e != api.OK {
			t.Fatalf("Check of %+v = %d", code, e)
		}
		f(&d, code, file(d.values(api.MaxRegs)), d.values(6))
	}
}

// 3.4, with reads enough and with fewer.
func TestLocalOfManyCodes(t *testing.T) {
	many(t, func(d *dice, code []api.Ins, regs file, reads []int) {
		for _, n := range []int{6, d.below(6)} {
			got, want := local(code, regs, reads[:n]...), model(code, regs, reads[:n])
			if !got.is(want) {
				t.Fatalf("%+v from %v, reads %v:\n got %+v\nwant %+v", code, regs, reads[:n], got, want)
			}
		}
	})
}

// 3.5: no path is longer than its code; it goes forward only; an event stands
// where it says.
func TestLocalEnds(t *testing.T) {
	many(t, func(d *dice, code []api.Ins, regs file, reads []int) {
		r := local(code, regs, reads...)
		if len(r.path) > len(code) || len(code) > 0 && r.path[0] != 0 {
			t.Fatalf("%+v: the path %v", code, r.path)
		}
		for n := 1; n < len(r.path); n++ {
			if r.path[n] <= r.path[n-1] || r.path[n] >= len(code) {
				t.Fatalf("%+v: the path %v", code, r.path)
			}
		}
		for n, ev := range r.events {
			if r.path[ev.Pos] != ev.At || code[ev.At].Op != ev.Op || n > 0 && r.events[n-1].Pos >= ev.Pos {
				t.Fatalf("%+v: the path %v, event %d %+v", code, r.path, n, ev)
			}
		}
	})
}

// 3.5: a register that no instruction uses may hold anything at first.
func TestWhatIsNotReadAtFirst(t *testing.T) {
	many(t, func(d *dice, code []api.Ins, regs file, reads []int) {
		before := local(code, regs, reads...)
		for reg := range regs {
			if used(reg, code) {
				continue
			}
			other := regs
			other[reg] = d.among(odd)
			after := local(code, other, reads...)
			after.out[reg] = before.out[reg]
			if !after.is(before) {
				t.Fatalf("%+v: register %d turns\n%+v into\n%+v", code, reg, before, after)
			}
		}
	})
}

// 3.5: so may what an instruction gives to no one behind it.
func TestWhatIsNotReadBehind(t *testing.T) {
	many(t, func(d *dice, code []api.Ins, regs file, reads []int) {
		before := local(code, regs, reads...)
		for at, i := range code {
			reg := Gives(i)
			if reg < 0 || Reads(i) || used(reg, code[at+1:]) {
				continue
			}
			turned := slices.Clone(code)
			turned[at] = konst(reg, d.among(odd))
			after := local(turned, regs, reads...)
			after.out[reg] = before.out[reg]
			if !after.is(before) {
				t.Fatalf("%+v: instruction %d turns\n%+v into\n%+v", code, at, before, after)
			}
		}
	})
}

func used(reg int, code []api.Ins) bool {
	return slices.ContainsFunc(code, func(i api.Ins) bool { return slices.Contains(Uses(i), reg) })
}

// 3.5: and so may what a load reads that no instruction behind it uses.
func TestAReadThatIsNotReadBehind(t *testing.T) {
	code := []api.Ins{load(1, 0, 0, 8), by(2, load(1, 1, 0, 1)), store(1, 2, 0, 8), load(1, 0, 0, 8)}
	one, two := local(code, file{}, 1, 2, 3), local(code, file{}, 9, 2, 8)
	if one.out[1] != 3 || two.out[1] != 8 || one.events[0].Old != 1 || two.events[0].Old != 9 || one.events[2] != two.events[2] {
		t.Errorf("%+v\n%+v", one, two)
	}
	two.out[1], two.events[0].Old, two.events[3].Old = 3, 1, 3
	same(t, "a read that is used by none", two, one)
}

// R3: the code and the reads, and what lies behind them, stay.
func TestLocalKeepsItsListsAsTheyWere(t *testing.T) {
	many(t, func(d *dice, code []api.Ins, regs file, reads []int) {
		room := append(slices.Clone(code), konst(9, 9), bare(0))
		codeBefore, readsBefore := slices.Clone(room), slices.Clone(reads)
		n := d.below(6)
		Local(room[:len(code)], regs, reads[:n]...)
		Local(room, regs, reads...)
		if !slices.Equal(room, codeBefore) || !slices.Equal(reads, readsBefore) {
			t.Fatalf("%+v, %v became %+v, %v", codeBefore, readsBefore, room, reads)
		}
	})
}

// R3: what is told is new memory, the room behind it too.
func TestLocalTellsNewLists(t *testing.T) {
	code := []api.Ins{load(1, 0, 0, 8), store(1, 0, 0, 8), fence(1, 1), isb(), load(2, 1, 0, 8)}
	codeBefore, reads := slices.Clone(code), []int{4, 5, 6}
	first := local(code, file{}, reads...)
	second := local(code, file{}, reads...)
	kept := told{second.out, slices.Clone(second.events), slices.Clone(second.path), second.e}
	events, path := first.events[:cap(first.events)], first.path[:cap(first.path)]
	for n := range events {
		events[n] = api.Event{Op: 99}
	}
	for n := range path {
		path[n] = 99
	}
	same(t, "the other answer", second, kept)
	same(t, "the next answer", local(code, file{}, reads...), kept)
	if !slices.Equal(code, codeBefore) || !slices.Equal(reads, []int{4, 5, 6}) {
		t.Errorf("the lists became %+v, %v", code, reads)
	}
}

// R6: a call that panics ends the test.
func TestNoCallPanics(t *testing.T) {
	for _, i := range append(rights(), api.Ins{}, bare(0)) {
		for _, j := range turned(i, odd) {
			Uses(j)
			Gives(j)
			Reads(j)
			Writes(j)
			Ops(j, j)
			Branches(j, j)
			Check([]api.Ins{j, j, j}, []api.Ins{j})
			Local([]api.Ins{j}, file(slices.Repeat([]int{math.MinInt}, 8)), math.MaxInt)
			Local([]api.Ins{j, j, i}, file{}, 1, 2)
			Local([]api.Ins{j}, file{})
			for _, at := range odd {
				Right(j, at, -at)
				Right(j, 0, at)
			}
		}
	}
	Check(make([][]api.Ins, 1000)...)
	Check(make([]api.Ins, 1000))
}
