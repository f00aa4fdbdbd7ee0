package sc_test

import (
	"maps"
	"slices"
	"testing"

	"belated/api"
	"belated/cond"
	"belated/mach"
	"belated/model"
	"belated/sc"
)

// ends is all outcomes of a machine's walks, each state gone through once by its
// Key, or each as often as it is come to; and how many walks there were.
func ends(m mach.Machine, once bool) ([]api.Outcome, int) {
	out, seen, walks := map[api.Outcome]bool{}, map[string]bool{}, 0
	var from func(m mach.Machine)
	from = func(m mach.Machine) {
		if once && seen[m.Key()] {
			return
		}
		seen[m.Key()] = true
		if m.Done() {
			out[m.Outcome()] = true
			walks++
		}
		for i := range m.Moves() {
			twin := m.Twin()
			twin.Do(i)
			from(twin)
		}
	}
	from(m)
	return cond.Sort(slices.Collect(maps.Keys(out))...), walks
}

// agrees is whether the walks of a test come to what the model of interleavings
// allows, and how many outcomes that are.
func agrees(t *testing.T, x api.Test) int {
	t.Helper()
	want, e, _ := model.Allowed(x, model.Text(0))
	got, _ := ends(sc.New(x), true)
	if e != api.OK || !slices.Equal(got, want) {
		t.Fatalf("15.2: of %+v:\n got %v\nwant %v", x, got, want)
	}
	return len(got)
}

// wellKnown is texts of tests, with how many outcomes their interleavings have,
// and whether what they ask for is among these.
func wellKnown() []struct {
	text     string
	outcomes int
	is       bool
} {
	return []struct {
		text     string
		outcomes int
		is       bool
	}{
		{`X86 SB { } P0 | P1 ; MOVQ [x],$1 | MOVQ [y],$1 ; MOVQ RAX,[y] | MOVQ RAX,[x] ; exists (0:RAX=0 /\ 1:RAX=0)`, 3, false},
		{`X86 SBF { } P0 | P1 ; MOVQ [x],$1 | MOVQ [y],$1 ; MFENCE | MFENCE ; MOVQ RAX,[y] | MOVQ RAX,[x] ; exists (0:RAX=0 /\ 1:RAX=0)`, 3, false},
		{`X86 MP { } P0 | P1 ; MOVQ [x],$1 | MOVQ RAX,[y] ; MOVQ [y],$1 | MOVQ RBX,[x] ; exists (1:RAX=1 /\ 1:RBX=0)`, 3, false},
		{`X86 W22 { } P0 | P1 ; MOVQ [x],$1 | MOVQ [y],$1 ; MOVQ [y],$2 | MOVQ [x],$2 ; exists (x=1 /\ y=1)`, 3, false},
		{`X86 ADD { 0:RAX=1; 1:RAX=2; } P0 | P1 ; XADDQ [x],RAX | XADDQ [x],RAX ; exists (0:RAX=2 /\ 1:RAX=0 /\ x=3)`, 2, true},
		{`ARM LB { 0:X7=1; 1:X7=1; } P0 | P1 ; LDR X0,[x] | LDR X0,[y] ; STR X7,[y] | STR X7,[x] ; exists (0:X0=1 /\ 1:X0=1)`, 3, false},
		{`ARM RR { 0:X7=1; } P0 | P1 ; STR X7,[x] | LDR X0,[x] ; | LDR X1,[x] ; exists (1:X0=1 /\ 1:X1=0)`, 3, false},
		{`ARM WRC { 0:X7=1; 1:X7=1; } P0 | P1 | P2 ; STR X7,[x] | LDR X0,[x] | LDR X0,[y] ; | STR X7,[y] | LDR X1,[x] ; exists (1:X0=1 /\ 2:X0=1 /\ 2:X1=0)`, 7, false},
		{`ARM IF { 1:X7=1; } P0 | P1 ; LDR X0,[x] | STR X7,[x] ; CBZ X0,end | ; STR X0,[y] | ; end: | ; exists y=1`, 2, true},
		{`RISCV S { 0:a6=2; 0:a7=1; 1:a7=1; } P0 | P1 ; sd a6,[x] | ld a0,[y] ; sd a7,[y] | sd a7,[x] ; exists (1:a0=1 /\ x=2)`, 3, false},
		{`RISCV HALF { 0:a7=-1; } P0 | P1 ; sw a7,[x+4] | ld a0,[x] ; sw a7,[x] | ; exists (1:a0=-4294967296)`, 3, true},
		{`RISCV NONE { x=5; } P0 | P1 | P2 ; li a0,1 | fence rw,rw | ; exists (x=5 /\ 0:a0=1)`, 1, true},
	}
}

// 15.2: tests that are well known.
func TestWellKnown(t *testing.T) {
	for _, k := range wellKnown() {
		x := parsed(t, k.text)
		all, _ := ends(sc.New(x), true)
		is := slices.ContainsFunc(all, func(o api.Outcome) bool { return cond.Eval(o, x.Cond...) })
		if n := agrees(t, x); n != k.outcomes || is != k.is {
			t.Errorf("15.2: %s: %d outcomes, %v among them, want %d, %v", k.text, n, is, k.outcomes, k.is)
		}
	}
}

// 15.2: drawn tests, by Keys and without.
func TestInterleavings(t *testing.T) {
	t.Parallel()
	d := dice(152)
	several, many, whole := 0, 0, 0
	for n := range 4000 {
		x := d.right([]int{2, 3, 4, api.MaxCode}[n%4])
		outcomes := agrees(t, x)
		if outcomes > 1 {
			several++
		}
		many = max(many, outcomes)
		if steps(x) > 9 {
			continue
		}
		whole++
		byKeys, _ := ends(sc.New(x), true)
		if all, _ := ends(sc.New(x), false); !slices.Equal(all, byKeys) {
			t.Fatalf("14.1: of %+v: by Keys %v, without %v", x, byKeys, all)
		}
	}
	if several < 300 || many < 8 || whole < 1000 {
		t.Errorf("drawn too thin: %d tests have several outcomes, one has %d, %d were gone through without Keys", several, many, whole)
	}
}

// steps is the most moves that a walk of a test has.
func steps(x api.Test) int {
	n := 0
	for _, c := range x.Code {
		for _, i := range c {
			if i.Op >= api.OpLoad && i.Op <= api.OpIsb {
				n++
			}
		}
	}
	return n
}

// 15.1: each thread's moves are in order, and between threads any goes: so many
// walks are there of rows of so many instructions.
func TestHowManyWalks(t *testing.T) {
	for _, k := range []struct {
		a, b, c int
		walks   int
	}{{0, 0, 0, 1}, {1, 0, 0, 1}, {8, 0, 0, 1}, {1, 1, 0, 2}, {2, 2, 0, 6}, {1, 1, 1, 6}, {0, 3, 2, 10}, {2, 2, 2, 90}, {4, 0, 4, 70}, {3, 3, 3, 1680}, {8, 2, 1, 495}} {
		row := func(n int) code { return slices.Repeat(code{isb()}, n) }
		m := sc.New(test(row(k.a), row(k.b), row(k.c)))
		if out, walks := ends(m, false); walks != k.walks || len(out) != 1 {
			t.Errorf("15.1: %d walks of rows of %d, %d, %d, want %d; they end with %v", walks, k.a, k.b, k.c, k.walks, out)
		}
		if _, walks := ends(m, true); walks != 1 {
			t.Errorf("14.1: %d ends by Keys of what ends in one state", walks)
		}
	}
}

// W7: one thread has one outcome; threads in another order come to the same.
func TestThreads(t *testing.T) {
	t.Parallel()
	d := dice(157)
	for range 600 {
		x := d.right(4)
		got, _ := ends(sc.New(x), true)
		if len(x.Code) == 1 && len(got) != 1 {
			t.Fatalf("W7: one thread has the outcomes %v: %+v", got, x)
		}
		last := len(x.Code) - 1
		other := x
		other.Code = slices.Clone(x.Code)
		other.Code[0], other.Code[last] = x.Code[last], x.Code[0]
		other.Regs[0], other.Regs[last] = x.Regs[last], x.Regs[0]
		turned, _ := ends(sc.New(other), true)
		for n := range turned {
			turned[n].Regs[0], turned[n].Regs[last] = turned[n].Regs[last], turned[n].Regs[0]
		}
		if !slices.Equal(cond.Sort(turned...), got) {
			t.Fatalf("W7: %v, in another order %v: %+v", got, turned, x)
		}
	}
}
