package search_test

import (
	"slices"
	"strconv"
	"testing"

	"belated/api"
	"belated/cond"
	"belated/flat"
	"belated/mach"
	"belated/sc"
	"belated/search"
	"belated/tso"
)

// The chapter's table of examples.
func TestTable(t *testing.T) {
	sb := buffering()
	reads := func(r0, r1 int) api.Outcome { return outcome(locs{1, 1}, file{r0}, file{r1}) }
	strong := []api.Outcome{reads(0, 1), reads(1, 0), reads(1, 1)}
	comes(t, "sc of store buffering", sb, sc.New(sb), strong...)
	comes(t, "tso of store buffering", sb, tso.New(sb), append(strong, reads(0, 0))...)
	picks, ok := search.Reach(tso.New(sb), reads(0, 0))
	if !ok || len(picks) != 6 {
		t.Errorf("19.4: Reach(tso, both 0) = %v, %v, want six picks", picks, ok)
	}
	misses(t, "sc of store buffering", sc.New(sb), reads(0, 0))
	comes(t, "flat of store buffering", sb, flat.New(sb), append(strong, reads(0, 0))...)
	if picks, ok := search.Reach(flat.New(sb), reads(0, 0)); !ok || len(picks) != 6 {
		t.Errorf("19.4: Reach(flat, both 0) = %v, %v, want six picks", picks, ok)
	}
}

// 19.1, 19.3, 19.4: tests that are well known, of each architecture on the machine
// that is offered for it: how many outcomes there are; whether what is asked for is
// among them.
func TestWellKnown(t *testing.T) {
	all := kinds()
	inter, buffer, order := all[0], all[1], all[2]
	for _, k := range []struct {
		kind
		text     string
		outcomes int
		is       bool
	}{
		{inter, `X86 SB { } P0 | P1 ; MOVQ [x],$1 | MOVQ [y],$1 ; MOVQ RAX,[y] | MOVQ RAX,[x] ; exists (0:RAX=0 /\ 1:RAX=0)`, 3, false},
		{buffer, `X86 SB { } P0 | P1 ; MOVQ [x],$1 | MOVQ [y],$1 ; MOVQ RAX,[y] | MOVQ RAX,[x] ; exists (0:RAX=0 /\ 1:RAX=0)`, 4, true},
		{buffer, `X86 SBF { } P0 | P1 ; MOVQ [x],$1 | MOVQ [y],$1 ; MFENCE | MFENCE ; MOVQ RAX,[y] | MOVQ RAX,[x] ; exists (0:RAX=0 /\ 1:RAX=0)`, 3, false},
		{buffer, `X86 SBX { 0:RBX=1; 1:RBX=1; } P0 | P1 ; XCHGQ RBX,[x] | XCHGQ RBX,[y] ; MOVQ RAX,[y] | MOVQ RAX,[x] ; exists (0:RAX=0 /\ 1:RAX=0)`, 3, false},
		{buffer, `X86 MP { } P0 | P1 ; MOVQ [x],$1 | MOVQ RAX,[y] ; MOVQ [y],$1 | MOVQ RBX,[x] ; exists (1:RAX=1 /\ 1:RBX=0)`, 3, false},
		{buffer, `X86 N6 { } P0 | P1 ; MOVQ [x],$1 | MOVQ [y],$1 ; MOVQ RAX,[x] | MOVQ [x],$2 ; MOVQ RBX,[y] | ; exists (0:RAX=1 /\ 0:RBX=0 /\ x=1)`, 5, true},
		{buffer, `X86 HALF { } P0 | P1 ; MOVL [x],$1 | MOVL [x+4],$1 ; MOVQ RAX,[x] | MOVQ RAX,[x] ; exists (0:RAX=1 /\ 1:RAX=4294967296)`, 4, true},
		{buffer, `X86 ADD { 0:RAX=1; 1:RAX=2; } P0 | P1 ; XADDQ [x],RAX | XADDQ [x],RAX ; exists (0:RAX=2 /\ 1:RAX=0 /\ x=3)`, 2, true},
		{inter, `RISCV MP { 0:a7=1; } P0 | P1 ; sd a7,[x] | ld a0,[y] ; sd a7,[y] | ld a1,[x] ; exists (1:a0=1 /\ 1:a1=0)`, 3, false},
		{order, `RISCV MP { 0:a7=1; } P0 | P1 ; sd a7,[x] | ld a0,[y] ; sd a7,[y] | ld a1,[x] ; exists (1:a0=1 /\ 1:a1=0)`, 4, true},
		{order, `RISCV MPF { 0:a7=1; } P0 | P1 ; sd a7,[x] | ld a0,[y] ; fence w,w | fence r,r ; sd a7,[y] | ld a1,[x] ; exists (1:a0=1 /\ 1:a1=0)`, 3, false},
		{order, `RISCV W22 { 0:a6=2; 0:a7=1; 1:a6=2; 1:a7=1; } P0 | P1 ; sd a7,[x] | sd a7,[y] ; sd a6,[y] | sd a6,[x] ; exists (x=1 /\ y=1)`, 4, true},
		{order, `RISCV AMO { 0:a6=1; 1:a6=1; } P0 | P1 ; amoadd.d.aq a1,a6,[x] | amoadd.d.aq a1,a6,[y] ; ld a0,[y] | ld a0,[x] ; exists (0:a0=0 /\ 1:a0=0)`, 3, false},
		{order, `RISCV NONE { x=5; } P0 | P1 | P2 ; li a0,1 | fence rw,rw | ; exists (x=5 /\ 0:a0=1)`, 1, true},
		{order, `ARM LB { 0:X7=1; 1:X7=1; } P0 | P1 ; LDR X0,[x] | LDR X0,[y] ; STR X7,[y] | STR X7,[x] ; exists (0:X0=1 /\ 1:X0=1)`, 4, true},
		{inter, `ARM LB { 0:X7=1; 1:X7=1; } P0 | P1 ; LDR X0,[x] | LDR X0,[y] ; STR X7,[y] | STR X7,[x] ; exists (0:X0=1 /\ 1:X0=1)`, 3, false},
		{order, `ARM LBCTRL { 0:X7=1; 1:X7=1; } P0 | P1 ; LDR X0,[x] | LDR X0,[y] ; CBZ X0,end | CBZ X0,end ; STR X7,[y] | STR X7,[x] ; end: | end: ; exists (0:X0=1 \/ 1:X0=1)`, 1, false},
		{order, `ARM LBONE { 1:X7=1; } P0 | P1 ; LDR X0,[x] | LDR X0,[y] ; CBZ X0,end | STR X7,[x] ; STR X0,[y] | ; end: | ; exists (0:X0=1 /\ 1:X0=1)`, 3, true},
		{order, `ARM MPAL { 0:X7=1; } P0 | P1 ; STR X7,[x] | LDAR X0,[y] ; STLR X7,[y] | LDR X1,[x] ; exists (1:X0=1 /\ 1:X1=0)`, 3, false},
		{order, `ARM MPISB { 0:X7=1; } P0 | P1 ; STR X7,[x] | LDR X0,[y] ; DMB ST | CBZ X0,end ; STR X7,[y] | ISB ; | LDR X2,[x] ; | end: ; exists (1:X0=1 /\ 1:X2=0)`, 2, false},
		{order, `ARM HALF { 0:X6=1; 1:X6=2; } P0 | P1 ; STRB X6,[x] | STRB X6,[x+1] ; LDR X0,[x] | LDR X0,[x] ; exists (0:X0=1 /\ 1:X0=512)`, 4, true},
		{order, `ARM WRC { 0:X7=1; 1:X7=1; } P0 | P1 | P2 ; STR X7,[x] | LDR X0,[x] | LDR X0,[y] ; | STR X7,[y] | LDR X1,[x] ; exists (1:X0=1 /\ 2:X0=1 /\ 2:X1=0)`, 8, true},
		{inter, `ARM WRC { 0:X7=1; 1:X7=1; } P0 | P1 | P2 ; STR X7,[x] | LDR X0,[x] | LDR X0,[y] ; | STR X7,[y] | LDR X1,[x] ; exists (1:X0=1 /\ 2:X0=1 /\ 2:X1=0)`, 7, false},
		{buffer, `X86 IRIW { } P0 | P1 | P2 ; MOVQ [x],$1 | MOVQ RAX,[x] | MOVQ RAX,[y] ; MOVQ [y],$1 | MOVQ RBX,[y] | MOVQ RBX,[x] ; exists (2:RAX=1 /\ 2:RBX=0)`, 12, false},
	} {
		x := parsed(t, k.text)
		m := k.make(x)
		want := allowed(t, x, k.kind.text)
		comes(t, k.text, x, m, want...)
		is := slices.ContainsFunc(want, func(o api.Outcome) bool { return cond.Eval(o, x.Cond...) })
		if len(want) != k.outcomes || is != k.is {
			t.Errorf("W1: %s on %s: %d outcomes, %v, want %d, %v", k.text, k.name, len(want), is, k.outcomes, k.is)
		}
		reaches(t, k.text, m, want...)
	}
}

// 19.1, 19.3, 19.4: what has no memory operation, no instruction, no thread is done
// behind its moves, at whichever it begins.
func TestWithoutMemory(t *testing.T) {
	f := fence(api.FenceR|api.FenceW, api.FenceR|api.FenceW)
	for _, codes := range [][]code{
		{}, {nil}, {{}, {}}, {nil, nil, nil}, {{konst(0, 7)}}, {{f}}, {nil, {isb()}, {}}, {{f, f}, {isb()}, {f}},
		{{ifZero(0, 2), konst(0, 7)}, {isb(), unless(0, 3), f}}, {{unless(1, 2), f}, {alu(api.FnAdd, 0, 1, 1)}, nil},
		slices.Repeat([]code{slices.Repeat(code{f}, api.MaxCode)}, api.MaxThreads),
	} {
		x := from(test(codes...), locs{4, 5, -6}, file{0, 3}, file{1, 8}, file{2, 9})
		for _, k := range kinds() {
			m := k.make(x)
			last := k.make(x)
			d := dice(len(codes))
			for len(last.Moves()) > 0 {
				// A path that is guessed wrong leads nowhere: the first may be it.
				twin := last.Twin()
				twin.Do(d.below(len(last.Moves())))
				if len(byKeys(twin)) > 0 {
					last = twin
				}
			}
			want := last.Outcome()
			if !last.Done() || want.Mem != x.Init {
				t.Fatalf("%s of %v ends with %+v", k.name, codes, tells(last))
			}
			comes(t, k.name+" without memory", x, m, want)
			reaches(t, k.name+" without memory", m, want)
			misses(t, k.name+" without memory", m, api.Outcome{}, outcome(x.Init, file{9, 9}), outcome(locs{4, 5, -7}))
			comes(t, k.name+" that is Done", x, last, want)
			if picks, ok := search.Reach(last, want); !ok || len(picks) != 0 {
				t.Errorf("19.4: %s: Reach of what holds already = %v, %v", k.name, picks, ok)
			}
			misses(t, k.name+" that is Done", last, api.Outcome{}, outcome(locs{4, 5, -7}))
		}
	}
}

// 19.4: an outcome that holds in the midst of a walk, of a state that is not Done,
// is not come to by that.
func TestReachOfWhatHoldsOnTheWay(t *testing.T) {
	x := test(code{put(0, 1), put(0, 2)}, code{put(1, 1)})
	for _, k := range kinds() {
		m := k.make(x)
		misses(t, k.name, m, api.Outcome{}, outcome(locs{1}), outcome(locs{1, 1}), outcome(locs{0, 1}), outcome(locs{2}))
		reaches(t, k.name, m, outcome(locs{2, 1}))
		comes(t, k.name, x, m, outcome(locs{2, 1}))
	}
	none := test(nil, code{})
	for _, k := range kinds() {
		reaches(t, k.name, k.make(none), api.Outcome{})
		comes(t, k.name, none, k.make(none), api.Outcome{})
	}
}

// 19.1, 19.3, 19.4: a machine that is dead, one that must die: nothing comes of them.
func TestDead(t *testing.T) {
	x := from(test(code{load(0, x), ifZero(0, 3), put(y, 1)}, code{put(z, 1)}), locs{})
	m := goes(t, flat.New(x), path(0, 0), perform(0, 0)) // goes on, though x is 0
	if !m.(*flat.Machine).Dead() || m.Done() || len(m.Moves()) != 0 {
		t.Fatalf("it is not dead: %+v", tells(m))
	}
	comes(t, "a dead machine", x, m)
	misses(t, "a dead machine", m, api.Outcome{}, outcome(locs{0, 0, 1}), outcome(locs{0, 1, 1}))
	m = goes(t, flat.New(x), path(0, 0), path(1, 0))
	if len(m.Moves()) != 2 {
		t.Fatalf("it is dead already: %+v", tells(m))
	}
	comes(t, "a machine that must die", x, m)
	misses(t, "a machine that must die", m, api.Outcome{}, outcome(locs{0, 0, 1}), outcome(locs{0, 1, 1}))
	m = goes(t, flat.New(x), path(0, 1))
	comes(t, "a machine that has chosen well", x, m, outcome(locs{0, 0, 1}))
	reaches(t, "a machine that has chosen well", m, outcome(locs{0, 0, 1}))
	one := test(code{konst(0, 1), ifZero(0, 3), isb()}, code{load(1, y)})
	for pick, want := range [][]api.Outcome{{outcome(locs{}, file{1})}, nil} {
		m := flat.New(one)
		m.Do(pick)
		comes(t, "a path that is guessed ahead", one, m, want...)
	}
}

// 19.1, 19.3: from a state on just what comes of that one.
func TestFromAStateOn(t *testing.T) {
	sb := buffering()
	reads := func(r0, r1 int) api.Outcome { return outcome(locs{1, 1}, file{r0}, file{r1}) }
	m := goes(t, tso.New(sb), do(0, 0), do(0, 1))
	comes(t, "tso, thread 0 has read", sb, m, reads(0, 0), reads(0, 1))
	goes(t, m, drain(0))
	comes(t, "tso, and drained", sb, m, reads(0, 1))
	misses(t, "tso, and drained", m, reads(0, 0), reads(1, 1))
	m = goes(t, sc.New(sb), do(0, 0), do(1, 0))
	comes(t, "sc, both stored", sb, m, reads(1, 1))
	mp := passing()
	seen := func(r0, r1 int) api.Outcome { return outcome(locs{1, 1}, file{}, file{r0, r1}) }
	m = goes(t, flat.New(mp), path(1, 0), path(0, 0), perform(1, 1))
	comes(t, "flat, x is read first", mp, m, seen(0, 0), seen(1, 0))
	goes(t, m, perform(0, 1))
	reaches(t, "flat, y is written", m, seen(1, 0))
	comes(t, "flat, y is written", mp, m, seen(1, 0))
}

// 19.1, 19.3: three threads that each swap, of every size at every place.
func TestEverySizeAtEveryPlace(t *testing.T) {
	for _, size := range sizes {
		for _, off := range offsets[size] {
			for loc := range api.MaxLocs {
				at := func(i api.Ins) api.Ins { i.Loc = loc; return part(off, size, i) }
				x := from(test(code{at(swap(0, 1, 0))}, code{at(store(1, 0)), at(load(0, 0))}, code{at(add(0, 1, 0))}),
					locs{0x0807060504030201, 0x0807060504030201, 0x0807060504030201}, file{0, 0x71}, file{0, 0x61}, file{0, 3})
				for _, k := range kinds() {
					what := k.name + " of size " + strconv.Itoa(size) + " at " + strconv.Itoa(off)
					want := allowed(t, x, k.text)
					comes(t, what, x, k.make(x), want...)
					reaches(t, what, k.make(x), want...)
					if len(want) < 6 {
						t.Errorf("too thin: %s comes to %v", what, want)
					}
				}
			}
		}
	}
}

// R3: what is answered is new memory, with the room behind it; the test and the
// machine stay as they were.
func TestNewMemory(t *testing.T) {
	x := buffering()
	was := slices.Clone(x.Code[0])
	for _, k := range kinds() {
		m := k.make(x)
		all, also := search.All(m), search.All(m)
		spoil(all)
		slept, too := search.Sleep(x, m), search.Sleep(x, m)
		spoil(slept)
		if want := byKeys(m); !slices.Equal(also, want) || !slices.Equal(too, want) || !slices.Equal(search.All(m), want) || !slices.Equal(search.Sleep(x, m), want) {
			t.Errorf("R3: %s: what was written into one answer is in another", k.name)
		}
		picks, _ := search.Reach(m, also[0])
		others, _ := search.Reach(m, also[0])
		keep := slices.Clone(others)
		for n := range picks[:cap(picks)] {
			picks[:cap(picks)][n] = -9
		}
		if !slices.Equal(others, keep) {
			t.Errorf("R3: %s: what was written into one row of picks is in another", k.name)
		}
		reaches(t, k.name, m, also...)
	}
	if !slices.Equal(x.Code[0], was) {
		t.Errorf("R3: the test was %v, is %v", was, x.Code[0])
	}
}

// spoil writes into a list and the room behind it.
func spoil(os []api.Outcome) {
	for n := range os[:cap(os)] {
		os[:cap(os)][n] = outcome(locs{-9, -9, -9})
	}
}

// 19.4: a Play by picks of another machine of the test comes to the same.
func TestReachOfATwin(t *testing.T) {
	x := passing()
	for _, k := range kinds() {
		for _, o := range search.All(k.make(x)) {
			picks, _ := search.Reach(k.make(x), o)
			m := k.make(x)
			if n := mach.Play(m, picks...); n != len(picks) || !m.Done() || m.Outcome() != o {
				t.Errorf("19.4: %s: %d of the picks %v come to %+v, want %v", k.name, n, picks, tells(m), o)
			}
		}
	}
}

// R1: of the rows of picks that come to an outcome Reach tells always the same: the
// first one in the order of the picks.
func TestReachTellsTheFirstRow(t *testing.T) {
	d := dice(200)
	tests := 0
	for n := range 300 {
		x := d.drawn(n)
		if steps(x) > 7 {
			continue
		}
		tests++
		for _, k := range kinds() {
			first := map[api.Outcome][]int{}
			var from func(m mach.Machine, picks ...int)
			from = func(m mach.Machine, picks ...int) {
				if _, ok := first[m.Outcome()]; m.Done() && !ok {
					first[m.Outcome()] = slices.Clone(picks)
				}
				for pick := range m.Moves() {
					twin := m.Twin()
					twin.Do(pick)
					from(twin, append(slices.Clone(picks), pick)...)
				}
			}
			from(k.make(x))
			for o, want := range first {
				if picks, ok := search.Reach(k.make(x), o); !ok || !slices.Equal(picks, want) {
					t.Fatalf("19.4: %s: Reach of %v = %v, %v, want %v: %+v", k.name, o, picks, ok, want, x)
				}
			}
		}
	}
	if tests < 50 {
		t.Errorf("drawn too thin: %d small tests", tests)
	}
}
