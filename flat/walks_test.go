package flat_test

import (
	"maps"
	"slices"
	"testing"

	"belated/api"
	"belated/cond"
	"belated/flat"
	"belated/litmus"
	"belated/mach"
	"belated/model"
)

// outcomes is those of all walks of a machine, each state gone through once by
// its Key, or each as often as it is come to; and how many walks there were that
// ended Done.
func outcomes(m mach.Machine, once bool) ([]api.Outcome, int) {
	out, seen, walks := map[api.Outcome]bool{}, map[string]bool{}, 0
	var from func(m mach.Machine)
	from = func(m mach.Machine) {
		if once && seen[m.Key()] {
			return
		}
		seen[m.Key()] = true
		if m.Done() {
			out[m.Outcome()] = true
			walks++
		}
		for i := range m.Moves() {
			twin := m.Twin()
			twin.Do(i)
			from(twin)
		}
	}
	from(m)
	return cond.Sort(slices.Collect(maps.Keys(out))...), walks
}

// allowed is the outcomes that a model allows.
func allowed(t *testing.T, x api.Test, text string) []api.Outcome {
	t.Helper()
	all, e, _ := model.Allowed(x, text)
	if e != api.OK {
		t.Fatalf("no outcomes: error %d", e)
	}
	return all
}

// agrees is the outcomes of the walks of a test, which must be what the models of
// RISCV and ARM allow.
func agrees(t *testing.T, x api.Test) []api.Outcome {
	t.Helper()
	got, _ := outcomes(flat.New(x), true)
	if want := allowed(t, x, model.Text(api.RISCV)); !slices.Equal(got, want) {
		t.Fatalf("17.5: of %+v:\n got %v\nwant %v", x, got, want)
	}
	return got
}

// within is whether some outcomes are among others.
func within(some, all []api.Outcome) bool {
	return slices.Equal(cond.Sort(slices.Concat(some, all)...), cond.Sort(all...))
}

// wellKnown is texts of tests, and whether what they ask for is allowed.
func wellKnown() []struct {
	text string
	is   bool
} {
	return []struct {
		text string
		is   bool
	}{
		{`ARM SB { 0:X7=1; 1:X7=1; } P0 | P1 ; STR X7,[x] | STR X7,[y] ; LDR X0,[y] | LDR X0,[x] ; exists (0:X0=0 /\ 1:X0=0)`, true},
		{`ARM SBDMB { 0:X7=1; 1:X7=1; } P0 | P1 ; STR X7,[x] | STR X7,[y] ; DMB SY | DMB SY ; LDR X0,[y] | LDR X0,[x] ; exists (0:X0=0 /\ 1:X0=0)`, false},
		{`ARM SBLD { 0:X7=1; 1:X7=1; } P0 | P1 ; STR X7,[x] | STR X7,[y] ; DMB LD | DMB LD ; LDR X0,[y] | LDR X0,[x] ; exists (0:X0=0 /\ 1:X0=0)`, true},
		{`ARM SBAL { 0:X7=1; 1:X7=1; } P0 | P1 ; STLR X7,[x] | STLR X7,[y] ; LDAR X0,[y] | LDAR X0,[x] ; exists (0:X0=0 /\ 1:X0=0)`, false},
		{`ARM SBQL { 0:X7=1; 1:X7=1; } P0 | P1 ; STLR X7,[x] | STLR X7,[y] ; LDAPR X0,[y] | LDAPR X0,[x] ; exists (0:X0=0 /\ 1:X0=0)`, true},
		{`ARM MP { 0:X7=1; } P0 | P1 ; STR X7,[x] | LDR X0,[y] ; STR X7,[y] | LDR X1,[x] ; exists (1:X0=1 /\ 1:X1=0)`, true},
		{`ARM MPST { 0:X7=1; } P0 | P1 ; STR X7,[x] | LDR X0,[y] ; DMB ST | LDR X1,[x] ; STR X7,[y] | ; exists (1:X0=1 /\ 1:X1=0)`, true},
		{`ARM MPSTLD { 0:X7=1; } P0 | P1 ; STR X7,[x] | LDR X0,[y] ; DMB ST | DMB LD ; STR X7,[y] | LDR X1,[x] ; exists (1:X0=1 /\ 1:X1=0)`, false},
		{`ARM MPAL { 0:X7=1; } P0 | P1 ; STR X7,[x] | LDAR X0,[y] ; STLR X7,[y] | LDR X1,[x] ; exists (1:X0=1 /\ 1:X1=0)`, false},
		{`ARM MPQL { 0:X7=1; } P0 | P1 ; STR X7,[x] | LDAPR X0,[y] ; STLR X7,[y] | LDR X1,[x] ; exists (1:X0=1 /\ 1:X1=0)`, false},
		{`ARM MPADDR { 0:X7=1; } P0 | P1 ; STR X7,[x] | LDR X0,[y] ; DMB ST | EOR X1,X0,X0 ; STR X7,[y] | LDR X2,[x+X1] ; exists (1:X0=1 /\ 1:X2=0)`, false},
		{`ARM MPCTRL { 0:X7=1; } P0 | P1 ; STR X7,[x] | LDR X0,[y] ; DMB ST | CBZ X0,end ; STR X7,[y] | LDR X2,[x] ; | end: ; exists (1:X0=1 /\ 1:X2=0)`, true},
		{`ARM MPISB { 0:X7=1; } P0 | P1 ; STR X7,[x] | LDR X0,[y] ; DMB ST | CBZ X0,end ; STR X7,[y] | ISB ; | LDR X2,[x] ; | end: ; exists (1:X0=1 /\ 1:X2=0)`, false},
		{`ARM LB { 0:X7=1; 1:X7=1; } P0 | P1 ; LDR X0,[x] | LDR X0,[y] ; STR X7,[y] | STR X7,[x] ; exists (0:X0=1 /\ 1:X0=1)`, true},
		{`ARM LBDATA { } P0 | P1 ; LDR X0,[x] | LDR X0,[y] ; STR X0,[y] | STR X0,[x] ; exists (0:X0=1 \/ 1:X0=1)`, false},
		{`ARM LBONE { 1:X7=1; } P0 | P1 ; LDR X0,[x] | LDR X0,[y] ; STR X0,[y] | STR X7,[x] ; exists (0:X0=1 /\ 1:X0=1)`, true},
		{`ARM LBCTRL { 0:X7=1; 1:X7=1; } P0 | P1 ; LDR X0,[x] | LDR X0,[y] ; CBZ X0,end | CBZ X0,end ; STR X7,[y] | STR X7,[x] ; end: | end: ; exists (0:X0=1 /\ 1:X0=1)`, false},
		{`ARM LBREL { 0:X7=1; 1:X7=1; } P0 | P1 ; LDR X0,[x] | LDR X0,[y] ; STLR X7,[y] | STLR X7,[x] ; exists (0:X0=1 /\ 1:X0=1)`, false},
		{`ARM RR { 0:X7=1; } P0 | P1 ; STR X7,[x] | LDR X0,[x] ; | LDR X1,[x] ; exists (1:X0=1 /\ 1:X1=0)`, false},
		{`ARM WRC { 0:X7=1; 1:X7=1; } P0 | P1 | P2 ; STR X7,[x] | LDR X0,[x] | LDR X0,[y] ; | STR X7,[y] | LDR X1,[x] ; exists (1:X0=1 /\ 2:X0=1 /\ 2:X1=0)`, true},
		{`ARM WRCDEP { 0:X7=1; } P0 | P1 | P2 ; STR X7,[x] | LDR X0,[x] | LDR X0,[y] ; | STR X0,[y] | EOR X2,X0,X0 ; | | LDR X1,[x+X2] ; exists (1:X0=1 /\ 2:X0=1 /\ 2:X1=0)`, false},
		{`ARM FWD { 0:X7=1; 1:X7=1; } P0 | P1 ; STR X7,[x] | STR X7,[y] ; LDR X1,[x] | LDR X1,[y] ; EOR X2,X1,X1 | EOR X2,X1,X1 ; LDR X0,[y+X2] | LDR X0,[x+X2] ; exists (0:X0=0 /\ 1:X0=0)`, true},
		{`ARM SWP { 0:X6=1; 0:X7=1; 1:X6=1; } P0 | P1 ; SWP X6,X1,[x] | SWP X6,X1,[y] ; LDR X0,[y] | LDR X0,[x] ; exists (0:X0=0 /\ 1:X0=0)`, true},
		{`ARM SWPAL { 0:X6=1; 1:X6=1; } P0 | P1 ; SWPAL X6,X1,[x] | SWPAL X6,X1,[y] ; LDR X0,[y] | LDR X0,[x] ; exists (0:X0=0 /\ 1:X0=0)`, false},
		{`ARM ADD { 0:X6=1; 1:X6=2; } P0 | P1 ; LDADD X6,X1,[x] | LDADD X6,X1,[x] ; exists (0:X1=2 /\ 1:X1=1)`, false},
		{`ARM HALF { 0:X6=1; 1:X6=2; } P0 | P1 ; STRB X6,[x] | STRB X6,[x+1] ; LDR X0,[x] | LDR X0,[x] ; exists (0:X0=1 /\ 1:X0=512)`, true},
		{`RISCV MP { 0:a7=1; } P0 | P1 ; sd a7,[x] | ld a0,[y] ; fence w,w | fence r,r ; sd a7,[y] | ld a1,[x] ; exists (1:a0=1 /\ 1:a1=0)`, false},
		{`RISCV MPRW { 0:a7=1; } P0 | P1 ; sd a7,[x] | ld a0,[y] ; fence w,w | fence r,w ; sd a7,[y] | ld a1,[x] ; exists (1:a0=1 /\ 1:a1=0)`, true},
		{`RISCV SB { 0:a7=1; 1:a7=1; } P0 | P1 ; sd a7,[x] | sd a7,[y] ; fence w,r | fence w,r ; ld a0,[y] | ld a0,[x] ; exists (0:a0=0 /\ 1:a0=0)`, false},
		{`RISCV S { 0:a6=2; 0:a7=1; 1:a7=1; } P0 | P1 ; sd a6,[x] | ld a0,[y] ; sd a7,[y] | sd a7,[x] ; exists (1:a0=1 /\ x=2)`, true},
		{`RISCV W22 { 0:a6=2; 0:a7=1; 1:a6=2; 1:a7=1; } P0 | P1 ; sd a7,[x] | sd a7,[y] ; sd a6,[y] | sd a6,[x] ; exists (x=1 /\ y=1)`, true},
		{`RISCV W22F { 0:a6=2; 0:a7=1; 1:a6=2; 1:a7=1; } P0 | P1 ; sd a7,[x] | sd a7,[y] ; fence w,w | fence w,w ; sd a6,[y] | sd a6,[x] ; exists (x=1 /\ y=1)`, false},
		{`RISCV AMO { 0:a6=1; 1:a6=1; } P0 | P1 ; amoadd.d.aq a1,a6,[x] | amoadd.d.aq a1,a6,[y] ; ld a0,[y] | ld a0,[x] ; exists (0:a0=0 /\ 1:a0=0)`, false},
		{`RISCV AMORL { 0:a6=1; 1:a6=1; } P0 | P1 ; amoadd.d.rl a1,a6,[x] | amoadd.d.rl a1,a6,[y] ; ld a0,[y] | ld a0,[x] ; exists (0:a0=0 /\ 1:a0=0)`, true},
		{`RISCV NONE { x=5; } P0 | P1 | P2 ; li a0,1 | fence rw,rw | ; exists (x=5 /\ 0:a0=1)`, true},
	}
}

// 17.5: tests that are well known.
func TestWellKnown(t *testing.T) {
	for _, k := range wellKnown() {
		x := parsed(t, k.text)
		is := slices.ContainsFunc(agrees(t, x), func(o api.Outcome) bool { return cond.Eval(o, x.Cond...) })
		if is != k.is {
			t.Errorf("17.5: %s: %v", k.text, is)
		}
	}
}

// 17.5, W1, W6: drawn tests, by Keys and, where they are small, without; what
// interleavings come to is among what they come to.
func TestAgreement(t *testing.T) {
	t.Parallel()
	d := dice(172)
	more, most, whole := 0, 0, 0
	for n := range 1500 {
		x := d.drawn(n)
		got := agrees(t, x)
		if inter := allowed(t, x, model.Text(0)); !within(inter, got) {
			t.Fatalf("W6: %v is not among %v: %+v", inter, got, x)
		} else if len(got) > len(inter) {
			more++
		}
		most = max(most, len(got))
		if steps(x) > 6 {
			continue
		}
		whole++
		if all, _ := outcomes(flat.New(x), false); !slices.Equal(all, got) {
			t.Fatalf("14.1: of %+v: by Keys %v, without %v", x, got, all)
		}
	}
	if more < 150 || most < 20 || whole < 300 {
		t.Errorf("drawn too thin: %d tests have more outcomes than interleavings, one has %d, %d were gone through without Keys", more, most, whole)
	}
}

// steps is the most moves that a walk of a test has.
func steps(x api.Test) int {
	n := len(x.Code)
	for _, c := range x.Code {
		for _, i := range c {
			if isOp(i) {
				n++
			}
		}
	}
	return n
}

// W1: of a RISC-V or Arm test they are those that are allowed on its architecture.
func TestAllowed(t *testing.T) {
	t.Parallel()
	d := dice(178)
	counts := [api.ARM + 1]int{}
	for counts[api.RISCV] < 150 || counts[api.ARM] < 150 {
		x := d.right(6)
		if x.Arch == api.X86 {
			continue
		}
		counts[x.Arch]++
		want, e, _ := model.Allowed(x)
		if got, _ := outcomes(flat.New(x), true); e != api.OK || !slices.Equal(got, want) {
			t.Fatalf("W1: of %+v:\n got %v\nwant %v", x, got, want)
		}
	}
}

// W6: with a full fence between any two memory operations nothing is left but
// what interleavings come to; with one more of them, an acquire, a release more,
// nothing is new.
func TestStronger(t *testing.T) {
	t.Parallel()
	d := dice(179)
	less, some := 0, 0
	for range 600 {
		x := d.narrow()
		all := agrees(t, x)
		full, _ := outcomes(flat.New(fenced(x, func() bool { return true })), true)
		if inter := allowed(t, x, model.Text(0)); !slices.Equal(full, inter) {
			t.Fatalf("W6: of %+v with fences:\n got %v\nwant %v", x, full, inter)
		}
		for _, stronger := range []api.Test{fenced(x, d.flag), marking(x, d.flag)} {
			got, _ := outcomes(flat.New(stronger), true)
			if !within(got, all) {
				t.Fatalf("W6: %v is not among %v: %+v, stronger %+v", got, all, x, stronger)
			}
			if len(got) < len(all) {
				some++
			}
		}
		if len(full) < len(all) {
			less++
		}
	}
	if less < 50 || some < 50 {
		t.Errorf("drawn too thin: full fences leave less of %d tests, something more of %d", less, some)
	}
}

// narrow draws a test of two threads, or three, of two or three memory operations
// each, with no branch; the codes have room for fences.
func (d *dice) narrow() api.Test {
	x := test(make([]code, 2+d.below(2))...)
	for thread := range x.Code {
		for n := range 5 - len(x.Code) - d.below(2) {
			x.Code[thread] = append(x.Code[thread], d.near(n, n-1, d.below(2)))
		}
		for reg := 0; reg < api.MaxRegs; reg++ {
			x.Regs[thread][reg] = 0x0101010101010101 * (8*thread + reg)
		}
	}
	return x
}

// fenced is a test with full fences behind those instructions of which is says so.
func fenced(x api.Test, is func() bool) api.Test {
	codes := make([]code, len(x.Code))
	for thread, c := range x.Code {
		for _, i := range c {
			codes[thread] = append(codes[thread], i)
			if is() {
				codes[thread] = append(codes[thread], fence(3, 3))
			}
		}
	}
	x.Code = codes
	return x
}

// marking is a test with Acq and Rel set where they may be, and is says so.
func marking(x api.Test, is func() bool) api.Test {
	codes := make([]code, len(x.Code))
	for thread, c := range x.Code {
		for _, i := range c {
			i.Acq = i.Acq || reads(i) && !i.Weak && is()
			i.Rel = i.Rel || writes(i) && is()
			codes[thread] = append(codes[thread], i)
		}
	}
	x.Code = codes
	return x
}

// W7: one thread has one outcome; threads in another order come to the same.
func TestThreads(t *testing.T) {
	t.Parallel()
	d := dice(177)
	ones := 0
	for n := range 400 {
		x := d.drawn(n)
		got, _ := outcomes(flat.New(x), true)
		if len(x.Code) == 1 && len(got) != 1 {
			t.Fatalf("W7: one thread has the outcomes %v: %+v", got, x)
		} else if len(x.Code) == 1 {
			ones++
		}
		last := len(x.Code) - 1
		other := x
		other.Code = slices.Clone(x.Code)
		other.Code[0], other.Code[last] = x.Code[last], x.Code[0]
		other.Regs[0], other.Regs[last] = x.Regs[last], x.Regs[0]
		turned, _ := outcomes(flat.New(other), true)
		for n := range turned {
			turned[n].Regs[0], turned[n].Regs[last] = turned[n].Regs[last], turned[n].Regs[0]
		}
		if !slices.Equal(cond.Sort(turned...), got) {
			t.Fatalf("W7: %v, in another order %v: %+v", got, turned, x)
		}
	}
	if ones < 30 {
		t.Errorf("drawn too thin: %d tests of one thread", ones)
	}
}

// 17.4: what waits for nothing goes in any order, each thread's behind its path:
// so many walks are there of rows of stores of bytes that do not meet.
func TestHowManyWalks(t *testing.T) {
	for _, k := range []struct {
		n              [3]int
		walks, inOrder int
	}{{[3]int{}, 6, 6}, {[3]int{1}, 12, 12}, {[3]int{2}, 40, 20}, {[3]int{3}, 180, 30}, {[3]int{0, 4}, 1008, 42}, {[3]int{1, 1}, 30, 30}, {[3]int{0, 2, 1}, 120, 60}, {[3]int{1, 1, 1}, 90, 90}} {
		codes, ordered := make([]code, 3), make([]code, 3)
		for thread, n := range k.n {
			for at := range n {
				i := part(at, 1, put(thread, 1))
				codes[thread] = append(codes[thread], i)
				ordered[thread] = append(ordered[thread], fence(3, 3), i)
			}
		}
		for _, x := range []struct {
			codes []code
			walks int
		}{{codes, k.walks}, {ordered, k.inOrder}} {
			if out, walks := outcomes(machine(t, test(x.codes...)), false); walks != x.walks || len(out) != 1 {
				t.Errorf("17.4: %d walks of rows of %v stores, want %d; they end with %v", walks, k.n, x.walks, out)
			}
		}
	}
}

// R8, 17.5: each walk ends in as many moves as there are threads and operations
// on their paths, Done or dead; it is dead only then.
func TestWalksEnd(t *testing.T) {
	d := dice(173)
	done, dead := 0, 0
	for range 2000 {
		x := d.right(api.MaxCode)
		if litmus.Check(x) != api.OK {
			t.Fatalf("the test itself is wrong: %+v", x)
		}
		m, n := flat.New(x), 0
		for can := m.Moves(); len(can) > 0; can = m.Moves() {
			if m.Dead() || m.Done() {
				t.Fatalf("17.4: there are moves at the end: %+v", x)
			}
			goes(t, m, d.move(can))
			n++
		}
		if m.Dead() == m.Done() || n > steps(x) {
			t.Fatalf("17.5: Dead is %v, Done %v behind %d moves: %+v", m.Dead(), m.Done(), n, x)
		}
		if m.Done() {
			done++
		} else {
			dead++
		}
	}
	if done < 500 || dead < 300 {
		t.Errorf("drawn too thin: %d are Done, %d dead", done, dead)
	}
}
