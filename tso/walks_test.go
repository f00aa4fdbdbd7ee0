package tso_test

import (
	"maps"
	"slices"
	"testing"

	"belated/api"
	"belated/cond"
	"belated/litmus"
	"belated/mach"
	"belated/model"
	"belated/tso"
)

// ends is all outcomes of a machine's walks, each state gone through once by its
// Key, or each as often as it is come to; and how many walks there were.
func ends(m mach.Machine, once bool) ([]api.Outcome, int) {
	out, seen, walks := map[api.Outcome]bool{}, map[string]bool{}, 0
	var from func(m mach.Machine)
	from = func(m mach.Machine) {
		if once && seen[m.Key()] {
			return
		}
		seen[m.Key()] = true
		if m.Done() {
			out[m.Outcome()] = true
			walks++
		}
		for i := range m.Moves() {
			twin := m.Twin()
			twin.Do(i)
			from(twin)
		}
	}
	from(m)
	return cond.Sort(slices.Collect(maps.Keys(out))...), walks
}

// agrees is the outcomes of the walks of a test, which must be what the model of
// X86 allows.
func agrees(t *testing.T, x api.Test) []api.Outcome {
	t.Helper()
	want, e, _ := model.Allowed(x, model.Text(api.X86))
	got, _ := ends(tso.New(x), true)
	if e != api.OK || !slices.Equal(got, want) {
		t.Fatalf("16.4: of %+v:\n got %v\nwant %v", x, got, want)
	}
	return got
}

// interleaved is the outcomes of a test's interleavings.
func interleaved(t *testing.T, x api.Test) []api.Outcome {
	t.Helper()
	all, e, _ := model.Allowed(x, model.Text(0))
	if e != api.OK {
		t.Fatalf("no outcomes: error %d", e)
	}
	return all
}

// wellKnown is texts of tests, with how many outcomes they have, and whether
// what they ask for is among these.
func wellKnown() []struct {
	text     string
	outcomes int
	is       bool
} {
	return []struct {
		text     string
		outcomes int
		is       bool
	}{
		{`X86 SB { } P0 | P1 ; MOVQ [x],$1 | MOVQ [y],$1 ; MOVQ RAX,[y] | MOVQ RAX,[x] ; exists (0:RAX=0 /\ 1:RAX=0)`, 4, true},
		{`X86 SBF { } P0 | P1 ; MOVQ [x],$1 | MOVQ [y],$1 ; MFENCE | MFENCE ; MOVQ RAX,[y] | MOVQ RAX,[x] ; exists (0:RAX=0 /\ 1:RAX=0)`, 3, false},
		{`X86 SBONE { } P0 | P1 ; MOVQ [x],$1 | MOVQ [y],$1 ; MFENCE | MOVQ RAX,[x] ; MOVQ RAX,[y] | ; exists (0:RAX=0 /\ 1:RAX=0)`, 4, true},
		{`X86 SBX { 0:RBX=1; 1:RBX=1; } P0 | P1 ; XCHGQ RBX,[x] | XCHGQ RBX,[y] ; MOVQ RAX,[y] | MOVQ RAX,[x] ; exists (0:RAX=0 /\ 1:RAX=0)`, 3, false},
		{`X86 OWN { } P0 | P1 ; MOVQ [x],$1 | MOVQ [y],$1 ; MOVQ RAX,[x] | MOVQ RAX,[y] ; MOVQ RBX,[y] | MOVQ RBX,[x] ; exists (0:RAX=1 /\ 0:RBX=0 /\ 1:RAX=1 /\ 1:RBX=0)`, 4, true},
		{`X86 MP { } P0 | P1 ; MOVQ [x],$1 | MOVQ RAX,[y] ; MOVQ [y],$1 | MOVQ RBX,[x] ; exists (1:RAX=1 /\ 1:RBX=0)`, 3, false},
		{`X86 W22 { } P0 | P1 ; MOVQ [x],$1 | MOVQ [y],$1 ; MOVQ [y],$2 | MOVQ [x],$2 ; exists (x=1 /\ y=1)`, 3, false},
		{`X86 ADD { 0:RAX=1; 1:RAX=2; } P0 | P1 ; XADDQ [x],RAX | XADDQ [x],RAX ; exists (0:RAX=2 /\ 1:RAX=0 /\ x=3)`, 2, true},
		{`X86 N6 { } P0 | P1 ; MOVQ [x],$1 | MOVQ [y],$1 ; MOVQ RAX,[x] | MOVQ [x],$2 ; MOVQ RBX,[y] | ; exists (0:RAX=1 /\ 0:RBX=0 /\ x=1)`, 5, true},
		{`X86 HALF { } P0 | P1 ; MOVL [x],$1 | MOVL [x+4],$1 ; MOVQ RAX,[x] | MOVQ RAX,[x] ; exists (0:RAX=1 /\ 1:RAX=4294967296)`, 4, true},
		{`ARM LB { 0:X7=1; 1:X7=1; } P0 | P1 ; LDR X0,[x] | LDR X0,[y] ; STR X7,[y] | STR X7,[x] ; exists (0:X0=1 /\ 1:X0=1)`, 3, false},
		{`ARM RR { 0:X7=1; } P0 | P1 ; STR X7,[x] | LDR X0,[x] ; | LDR X1,[x] ; exists (1:X0=1 /\ 1:X1=0)`, 3, false},
		{`ARM SBLD { 0:X7=1; 1:X7=1; } P0 | P1 ; STR X7,[x] | STR X7,[y] ; DMB LD | DMB LD ; LDR X0,[y] | LDR X0,[x] ; exists (0:X0=0 /\ 1:X0=0)`, 3, false},
		{`ARM SBISB { 0:X7=1; 1:X7=1; } P0 | P1 ; STR X7,[x] | STR X7,[y] ; ISB | ISB ; LDR X0,[y] | LDR X0,[x] ; exists (0:X0=0 /\ 1:X0=0)`, 4, true},
		{`ARM WRC { 0:X7=1; 1:X7=1; } P0 | P1 | P2 ; STR X7,[x] | LDR X0,[x] | LDR X0,[y] ; | STR X7,[y] | LDR X1,[x] ; exists (1:X0=1 /\ 2:X0=1 /\ 2:X1=0)`, 7, false},
		{`ARM IF { 1:X7=1; } P0 | P1 ; LDR X0,[x] | STR X7,[x] ; CBZ X0,end | ; STR X0,[y] | ; end: | ; exists y=1`, 2, true},
		{`RISCV S { 0:a6=2; 0:a7=1; 1:a7=1; } P0 | P1 ; sd a6,[x] | ld a0,[y] ; sd a7,[y] | sd a7,[x] ; exists (1:a0=1 /\ x=2)`, 3, false},
		{`RISCV R { 0:a7=1; 1:a6=2; 1:a7=1; } P0 | P1 ; sd a7,[x] | sd a6,[y] ; sd a7,[y] | ld a0,[x] ; exists (1:a0=0 /\ y=2)`, 4, true},
		{`RISCV NONE { x=5; } P0 | P1 | P2 ; li a0,1 | fence rw,rw | ; exists (x=5 /\ 0:a0=1)`, 1, true},
	}
}

// 16.4: tests that are well known.
func TestWellKnown(t *testing.T) {
	for _, k := range wellKnown() {
		x := parsed(t, k.text)
		all := agrees(t, x)
		is := slices.ContainsFunc(all, func(o api.Outcome) bool { return cond.Eval(o, x.Cond...) })
		if len(all) != k.outcomes || is != k.is {
			t.Errorf("16.4: %s: %d outcomes, %v among them, want %d, %v", k.text, len(all), is, k.outcomes, k.is)
		}
	}
}

// 16.4, W6: drawn tests, by Keys and without; what interleavings come to is
// among what they come to.
func TestAgreement(t *testing.T) {
	t.Parallel()
	d := dice(162)
	more, many, whole := 0, 0, 0
	for n := range 1600 {
		x := d.tight()
		if n%2 == 0 {
			x = d.right([]int{2, 3, 4, api.MaxCode}[n/2%4])
		}
		got := agrees(t, x)
		inter := interleaved(t, x)
		if !slices.Equal(cond.Sort(append(inter, got...)...), got) {
			t.Fatalf("W6: %v is not among %v: %+v", inter, got, x)
		}
		if len(got) > len(inter) {
			more++
		}
		many = max(many, len(got))
		if steps(x) > 8 {
			continue
		}
		whole++
		if all, _ := ends(tso.New(x), false); !slices.Equal(all, got) {
			t.Fatalf("14.1: of %+v: by Keys %v, without %v", x, got, all)
		}
	}
	if more < 150 || many < 20 || whole < 500 {
		t.Errorf("drawn too thin: %d tests have more outcomes than interleavings, one has %d, %d were gone through without Keys", more, many, whole)
	}
}

// 16.4: of an X86 test they are those that are allowed on its architecture.
func TestAllowed(t *testing.T) {
	d := dice(168)
	for n := 0; n < 100; {
		x := d.tight()
		if x.Arch != api.X86 {
			continue
		}
		n++
		want, e, _ := model.Allowed(x)
		if got, _ := ends(tso.New(x), true); e != api.OK || !slices.Equal(got, want) {
			t.Fatalf("W1: of %+v:\n got %v\nwant %v", x, got, want)
		}
	}
}

// W6: with a fence between any two memory operations nothing is left but what
// interleavings come to; with one more of them nothing is new.
func TestFenced(t *testing.T) {
	t.Parallel()
	d := dice(169)
	less := 0
	for range 400 {
		x := d.tight()
		all := agrees(t, x)
		full := fenced(x, func() bool { return true })
		got, _ := ends(tso.New(full), true)
		if inter := interleaved(t, x); !slices.Equal(got, inter) {
			t.Fatalf("W6: of %+v with fences:\n got %v\nwant %v", x, got, inter)
		}
		some, _ := ends(tso.New(fenced(x, d.flag)), true)
		if !slices.Equal(cond.Sort(append(some, all...)...), all) {
			t.Fatalf("W6: some fences more bring %v beside %v: %+v", some, all, x)
		}
		if len(got) < len(all) {
			less++
		}
	}
	if less < 50 {
		t.Errorf("drawn too thin: fences leave less of %d tests", less)
	}
}

// fenced is a tight test with fences behind those memory operations of which is
// says so, and that have none there.
func fenced(x api.Test, is func() bool) api.Test {
	codes := make([]code, len(x.Code))
	for thread, c := range x.Code {
		for at, i := range c {
			codes[thread] = append(codes[thread], i)
			has := i.Op == api.OpFence || at+1 < len(c) && c[at+1].Op == api.OpFence
			if !has && is() {
				codes[thread] = append(codes[thread], fence(3, 3))
			}
		}
	}
	x.Code = codes
	return x
}

// steps is the most moves that a walk of a test has.
func steps(x api.Test) int {
	n := 0
	for _, c := range x.Code {
		for _, i := range c {
			if i.Op >= api.OpLoad && i.Op <= api.OpIsb {
				n++
			}
			if i.Op == api.OpStore {
				n++
			}
		}
	}
	return n
}

// 16.1: each thread's stores are in order, its drains too, each behind its
// store; between threads any goes: so many walks are there of rows of stores,
// with a fence behind each or without.
func TestHowManyWalks(t *testing.T) {
	for _, k := range []struct {
		a, b, c       int
		walks, fenced int
	}{{0, 0, 0, 1, 1}, {1, 0, 0, 1, 1}, {2, 0, 0, 2, 1}, {3, 0, 0, 5, 1}, {4, 0, 0, 14, 1}, {0, 5, 0, 42, 0}, {0, 0, 6, 132, 0}, {1, 1, 0, 6, 20}, {2, 1, 0, 30, 84}, {1, 1, 1, 90, 1680}, {2, 2, 0, 280, 924}, {3, 0, 1, 140, 220}} {
		row := func(n int, c code) code { return slices.Repeat(c, n) }
		m := tso.New(test(row(k.a, code{put(x, 1)}), row(k.b, code{put(x, 1)}), row(k.c, code{put(x, 1)})))
		if out, walks := ends(m, false); walks != k.walks || len(out) != 1 {
			t.Errorf("16.1: %d walks of rows of %d, %d, %d stores, want %d; they end with %v", walks, k.a, k.b, k.c, k.walks, out)
		}
		if _, walks := ends(m, true); walks != 1 {
			t.Errorf("14.1: %d ends by Keys of what ends in one state", walks)
		}
		if k.fenced == 0 {
			continue
		}
		both := code{put(x, 1), fence(3, 3)}
		if out, walks := ends(tso.New(test(row(k.a, both), row(k.b, both), row(k.c, both))), false); walks != k.fenced || len(out) != 1 {
			t.Errorf("16.1: %d walks of rows of %d, %d, %d stores with fences, want %d; they end with %v", walks, k.a, k.b, k.c, k.fenced, out)
		}
	}
}

// W7: one thread has one outcome; threads in another order come to the same.
func TestThreads(t *testing.T) {
	t.Parallel()
	d := dice(167)
	for range 600 {
		x := d.right(4)
		got, _ := ends(tso.New(x), true)
		if len(x.Code) == 1 && len(got) != 1 {
			t.Fatalf("W7: one thread has the outcomes %v: %+v", got, x)
		}
		last := len(x.Code) - 1
		other := x
		other.Code = slices.Clone(x.Code)
		other.Code[0], other.Code[last] = x.Code[last], x.Code[0]
		other.Regs[0], other.Regs[last] = x.Regs[last], x.Regs[0]
		turned, _ := ends(tso.New(other), true)
		for n := range turned {
			turned[n].Regs[0], turned[n].Regs[last] = turned[n].Regs[last], turned[n].Regs[0]
		}
		if !slices.Equal(cond.Sort(turned...), got) {
			t.Fatalf("W7: %v, in another order %v: %+v", got, turned, x)
		}
	}
}

// R8: each walk ends, in a state that is Done, in as many moves as are passed
// and drained.
func TestWalksEnd(t *testing.T) {
	d := dice(163)
	for range 2000 {
		x := d.right(api.MaxCode)
		if litmus.Check(x) != api.OK {
			t.Fatalf("the test itself is wrong: %+v", x)
		}
		m, n := tso.New(x), 0
		for can := m.Moves(); len(can) > 0; can = m.Moves() {
			goes(t, m, can[d.below(len(can))])
			n++
		}
		if !m.Done() || n > steps(x) {
			t.Fatalf("16.3: Done is %v behind %d moves: %+v", m.Done(), n, x)
		}
	}
}
