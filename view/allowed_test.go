package view_test

import (
	"slices"
	"testing"

	"belated/api"
	"belated/cand"
	"belated/cond"
	"belated/model"
	"belated/view"
)

// outcomes is those of a Plain test.
func outcomes(t *testing.T, x api.Test) []api.Outcome {
	t.Helper()
	got, e := view.Outcomes(x)
	if e != api.OK {
		t.Fatalf("18.2: error %d: %+v", e, x)
	}
	return got
}

// allowed is the outcomes that texts allow, or those that are allowed.
func allowed(t *testing.T, x api.Test, texts ...string) []api.Outcome {
	t.Helper()
	all, e, _ := model.Allowed(x, texts...)
	if e != api.OK {
		t.Fatalf("no outcomes: error %d", e)
	}
	return all
}

// agrees is the outcomes of a Plain test, which must be those that are allowed.
func agrees(t *testing.T, x api.Test) []api.Outcome {
	t.Helper()
	got := outcomes(t, x)
	if want := allowed(t, x); !slices.Equal(got, want) {
		t.Fatalf("18.3: of %+v:\n got %v\nwant %v", x, got, want)
	}
	return got
}

// within is whether some outcomes are among others.
func within(some, all []api.Outcome) bool {
	return slices.Equal(cond.Sort(slices.Concat(some, all)...), cond.Sort(all...))
}

// wellKnown is texts of tests, and whether what they ask for is allowed.
func wellKnown() []struct {
	text string
	is   bool
} {
	return []struct {
		text string
		is   bool
	}{
		{`ARM SB { 0:X7=1; 1:X7=1; } P0 | P1 ; STR X7,[x] | STR X7,[y] ; LDR X0,[y] | LDR X0,[x] ; exists (0:X0=0 /\ 1:X0=0)`, true},
		{`ARM SBDMB { 0:X7=1; 1:X7=1; } P0 | P1 ; STR X7,[x] | STR X7,[y] ; DMB SY | DMB SY ; LDR X0,[y] | LDR X0,[x] ; exists (0:X0=0 /\ 1:X0=0)`, false},
		{`ARM SBLD { 0:X7=1; 1:X7=1; } P0 | P1 ; STR X7,[x] | STR X7,[y] ; DMB LD | DMB LD ; LDR X0,[y] | LDR X0,[x] ; exists (0:X0=0 /\ 1:X0=0)`, true},
		{`ARM SBAL { 0:X7=1; 1:X7=1; } P0 | P1 ; STLR X7,[x] | STLR X7,[y] ; LDAR X0,[y] | LDAR X0,[x] ; exists (0:X0=0 /\ 1:X0=0)`, false},
		{`ARM SBQL { 0:X7=1; 1:X7=1; } P0 | P1 ; STLR X7,[x] | STLR X7,[y] ; LDAPR X0,[y] | LDAPR X0,[x] ; exists (0:X0=0 /\ 1:X0=0)`, true},
		{`ARM MP { 0:X7=1; } P0 | P1 ; STR X7,[x] | LDR X0,[y] ; STR X7,[y] | LDR X1,[x] ; exists (1:X0=1 /\ 1:X1=0)`, true},
		{`ARM MPST { 0:X7=1; } P0 | P1 ; STR X7,[x] | LDR X0,[y] ; DMB ST | LDR X1,[x] ; STR X7,[y] | ; exists (1:X0=1 /\ 1:X1=0)`, true},
		{`ARM MPSTLD { 0:X7=1; } P0 | P1 ; STR X7,[x] | LDR X0,[y] ; DMB ST | DMB LD ; STR X7,[y] | LDR X1,[x] ; exists (1:X0=1 /\ 1:X1=0)`, false},
		{`ARM MPAL { 0:X7=1; } P0 | P1 ; STR X7,[x] | LDAR X0,[y] ; STLR X7,[y] | LDR X1,[x] ; exists (1:X0=1 /\ 1:X1=0)`, false},
		{`ARM MPQL { 0:X7=1; } P0 | P1 ; STR X7,[x] | LDAPR X0,[y] ; STLR X7,[y] | LDR X1,[x] ; exists (1:X0=1 /\ 1:X1=0)`, false},
		{`ARM MPADDR { 0:X7=1; } P0 | P1 ; STR X7,[x] | LDR X0,[y] ; DMB ST | EOR X1,X0,X0 ; STR X7,[y] | LDR X2,[x+X1] ; exists (1:X0=1 /\ 1:X2=0)`, false},
		{`ARM MPCTRL { 0:X7=1; } P0 | P1 ; STR X7,[x] | LDR X0,[y] ; DMB ST | CBZ X0,end ; STR X7,[y] | LDR X2,[x] ; | end: ; exists (1:X0=1 /\ 1:X2=0)`, true},
		{`ARM MPISB { 0:X7=1; } P0 | P1 ; STR X7,[x] | LDR X0,[y] ; DMB ST | CBZ X0,end ; STR X7,[y] | ISB ; | LDR X2,[x] ; | end: ; exists (1:X0=1 /\ 1:X2=0)`, false},
		{`ARM LB { 0:X7=1; 1:X7=1; } P0 | P1 ; LDR X0,[x] | LDR X0,[y] ; STR X7,[y] | STR X7,[x] ; exists (0:X0=1 /\ 1:X0=1)`, true},
		{`ARM LBDATA { } P0 | P1 ; LDR X0,[x] | LDR X0,[y] ; STR X0,[y] | STR X0,[x] ; exists (0:X0=1 \/ 1:X0=1)`, false},
		{`ARM LBONE { 1:X7=1; } P0 | P1 ; LDR X0,[x] | LDR X0,[y] ; STR X0,[y] | STR X7,[x] ; exists (0:X0=1 /\ 1:X0=1)`, true},
		{`ARM LBCTRL { 0:X7=1; 1:X7=1; } P0 | P1 ; LDR X0,[x] | LDR X0,[y] ; CBZ X0,end | CBZ X0,end ; STR X7,[y] | STR X7,[x] ; end: | end: ; exists (0:X0=1 /\ 1:X0=1)`, false},
		{`ARM LBREL { 0:X7=1; 1:X7=1; } P0 | P1 ; LDR X0,[x] | LDR X0,[y] ; STLR X7,[y] | STLR X7,[x] ; exists (0:X0=1 /\ 1:X0=1)`, false},
		{`ARM LBADDRPO { 0:X7=1; 1:X7=1; } P0 | P1 ; LDR X0,[x] | LDR X0,[y] ; EOR X1,X0,X0 | EOR X1,X0,X0 ; LDR X2,[z+X1] | LDR X2,[z+X1] ; STR X7,[y] | STR X7,[x] ; exists (0:X0=1 /\ 1:X0=1)`, false},
		{`ARM RR { 0:X7=1; } P0 | P1 ; STR X7,[x] | LDR X0,[x] ; | LDR X1,[x] ; exists (1:X0=1 /\ 1:X1=0)`, false},
		{`ARM WRC { 0:X7=1; 1:X7=1; } P0 | P1 | P2 ; STR X7,[x] | LDR X0,[x] | LDR X0,[y] ; | STR X7,[y] | LDR X1,[x] ; exists (1:X0=1 /\ 2:X0=1 /\ 2:X1=0)`, true},
		{`ARM WRCDEP { 0:X7=1; } P0 | P1 | P2 ; STR X7,[x] | LDR X0,[x] | LDR X0,[y] ; | STR X0,[y] | EOR X2,X0,X0 ; | | LDR X1,[x+X2] ; exists (1:X0=1 /\ 2:X0=1 /\ 2:X1=0)`, false},
		{`ARM ISA2 { 0:X7=1; } P0 | P1 | P2 ; STR X7,[x] | LDR X0,[y] | LDAPR X0,[z] ; STLR X7,[y] | STR X0,[z] | LDR X1,[x] ; exists (1:X0=1 /\ 2:X0=1 /\ 2:X1=0)`, false},
		{`ARM FWD { 0:X7=1; 1:X7=1; } P0 | P1 ; STR X7,[x] | STR X7,[y] ; LDR X1,[x] | LDR X1,[y] ; EOR X2,X1,X1 | EOR X2,X1,X1 ; LDR X0,[y+X2] | LDR X0,[x+X2] ; exists (0:X0=0 /\ 1:X0=0)`, true},
		{`ARM PPOCA { 0:X7=1; 1:X7=1; } P0 | P1 ; STR X7,[x] | LDR X0,[y] ; DMB SY | CBZ X0,end ; STR X7,[y] | STR X7,[z] ; | LDR X1,[z] ; | EOR X2,X1,X1 ; | LDR X3,[x+X2] ; | end: ; exists (1:X0=1 /\ 1:X1=1 /\ 1:X3=0)`, true},
		{`ARM PPOAA { 0:X7=1; 1:X7=1; } P0 | P1 ; STR X7,[x] | LDR X0,[y] ; DMB SY | EOR X4,X0,X0 ; STR X7,[y] | STR X7,[z+X4] ; | LDR X1,[z] ; | EOR X2,X1,X1 ; | LDR X3,[x+X2] ; exists (1:X0=1 /\ 1:X1=1 /\ 1:X3=0)`, false},
		{`RISCV MP { 0:a7=1; } P0 | P1 ; sd a7,[x] | ld a0,[y] ; fence w,w | fence r,r ; sd a7,[y] | ld a1,[x] ; exists (1:a0=1 /\ 1:a1=0)`, false},
		{`RISCV MPRW { 0:a7=1; } P0 | P1 ; sd a7,[x] | ld a0,[y] ; fence w,w | fence r,w ; sd a7,[y] | ld a1,[x] ; exists (1:a0=1 /\ 1:a1=0)`, true},
		{`RISCV SB { 0:a7=1; 1:a7=1; } P0 | P1 ; sd a7,[x] | sd a7,[y] ; fence w,r | fence w,r ; ld a0,[y] | ld a0,[x] ; exists (0:a0=0 /\ 1:a0=0)`, false},
		{`RISCV S { 0:a6=2; 0:a7=1; 1:a7=1; } P0 | P1 ; sd a6,[x] | ld a0,[y] ; sd a7,[y] | sd a7,[x] ; exists (1:a0=1 /\ x=2)`, true},
		{`RISCV SF { 0:a6=2; 0:a7=1; 1:a7=1; } P0 | P1 ; sd a6,[x] | ld a0,[y] ; fence w,w | fence r,w ; sd a7,[y] | sd a7,[x] ; exists (1:a0=1 /\ x=2)`, false},
		{`RISCV W22 { 0:a6=2; 0:a7=1; 1:a6=2; 1:a7=1; } P0 | P1 ; sd a7,[x] | sd a7,[y] ; sd a6,[y] | sd a6,[x] ; exists (x=1 /\ y=1)`, true},
		{`RISCV W22F { 0:a6=2; 0:a7=1; 1:a6=2; 1:a7=1; } P0 | P1 ; sd a7,[x] | sd a7,[y] ; fence w,w | fence w,w ; sd a6,[y] | sd a6,[x] ; exists (x=1 /\ y=1)`, false},
		{`RISCV NONE { x=5; } P0 | P1 | P2 ; li a0,1 | fence rw,rw | ; exists (x=5 /\ 0:a0=1)`, true},
	}
}

// 18.3: tests that are well known.
func TestWellKnown(t *testing.T) {
	for _, k := range wellKnown() {
		x := parsed(t, k.text)
		is := slices.ContainsFunc(agrees(t, x), func(o api.Outcome) bool { return cond.Eval(o, x.Cond...) })
		if is != k.is {
			t.Errorf("18.3: %s: %v", k.text, is)
		}
	}
}

// 18.3, W1, W6: the outcomes of drawn tests are those that are allowed; what
// interleavings come to is among them.
func TestAgreement(t *testing.T) {
	t.Parallel()
	d := dice(185)
	more, most := 0, 0
	counts := [api.ARM + 1]int{}
	for n := range 2000 {
		x := d.drawn(n)
		counts[x.Arch]++
		got := agrees(t, x)
		if inter := allowed(t, x, model.Text(0)); !within(inter, got) {
			t.Fatalf("W6: %v is not among %v: %+v", inter, got, x)
		} else if len(got) > len(inter) {
			more++
		}
		most = max(most, len(got))
	}
	if more < 120 || most < 20 || min(counts[api.RISCV], counts[api.ARM]) < 700 {
		t.Errorf("drawn too thin: %d tests have more outcomes than interleavings, one has %d; %v", more, most, counts)
	}
}

// W8, 18.2: along a Run that is accepted a thread meets the messages of each
// location in the order of their times.
func TestOneOrder(t *testing.T) {
	t.Parallel()
	d := dice(186)
	pairs := 0
	for n := range 1500 {
		x := d.drawn(n)
		for _, r := range cand.Runs(x) {
			if !view.Accepts(x, r) {
				continue
			}
			last := map[[2]int]int{}
			for n, e := range r.Events {
				if !e.Reads && !e.Writes {
					continue
				}
				at := [2]int{e.Thread, e.Span.Loc}
				if time := timeOf(r, n); time < last[at] {
					t.Fatalf("W8: thread %d meets time %d behind %d: %+v", e.Thread, time, last[at], x)
				} else if last[at] > 0 {
					pairs++
					last[at] = time
				} else {
					last[at] = time
				}
			}
		}
	}
	if pairs < 3000 {
		t.Errorf("drawn too thin: %d pairs of accesses", pairs)
	}
}

// W6: with a full fence between any two memory operations nothing is left but what
// interleavings come to; with one more of them, an acquire, a release more, nothing
// is new.
func TestStronger(t *testing.T) {
	t.Parallel()
	d := dice(187)
	less, some := 0, 0
	for range 800 {
		x := d.narrow()
		all := agrees(t, x)
		full := outcomes(t, fenced(x, func() bool { return true }))
		if inter := allowed(t, x, model.Text(0)); !slices.Equal(full, inter) {
			t.Fatalf("W6: of %+v with fences:\n got %v\nwant %v", x, full, inter)
		}
		for _, stronger := range []api.Test{fenced(x, d.flag), marking(x, d.flag)} {
			got := outcomes(t, stronger)
			if !within(got, all) {
				t.Fatalf("W6: %v is not among %v: %+v, stronger %+v", got, all, x, stronger)
			}
			if len(got) < len(all) {
				some++
			}
		}
		if len(full) < len(all) {
			less++
		}
	}
	if less < 40 || some < 30 {
		t.Errorf("drawn too thin: full fences leave less of %d tests, something more of %d", less, some)
	}
}

// narrow draws a Plain test of two threads, or three, of two or three memory
// operations each, with no branch; the codes have room for fences.
func (d *dice) narrow() api.Test {
	x := on(d.among([]int{api.RISCV, api.ARM}), make([]code, 2+d.below(2))...)
	for thread := range x.Code {
		for n := range 5 - len(x.Code) - d.below(2) {
			x.Code[thread] = append(x.Code[thread], d.op(d.below(2), n, 4+n, d.below(3)))
		}
		for reg := 4; reg < api.MaxRegs; reg++ {
			x.Regs[thread][reg] = 8*thread + reg
		}
	}
	return x
}

// fenced is a test with full fences behind those instructions of which is says so.
func fenced(x api.Test, is func() bool) api.Test {
	codes := make([]code, len(x.Code))
	for thread, c := range x.Code {
		for _, i := range c {
			codes[thread] = append(codes[thread], i)
			if is() {
				codes[thread] = append(codes[thread], fence(3, 3))
			}
		}
	}
	x.Code = codes
	return x
}

// marking is a test with Acq and Rel set where they may be, and is says so.
func marking(x api.Test, is func() bool) api.Test {
	codes := make([]code, len(x.Code))
	for thread, c := range x.Code {
		for _, i := range c {
			i.Acq = i.Acq || reads(i) && !i.Weak && is()
			i.Rel = i.Rel || writes(i) && is()
			codes[thread] = append(codes[thread], i)
		}
	}
	x.Code = codes
	return x
}

// W7: one thread has one outcome; threads in another order come to the same.
func TestThreads(t *testing.T) {
	t.Parallel()
	d := dice(188)
	ones := 0
	for n := range 800 {
		x := d.drawn(n)
		got := outcomes(t, x)
		if len(x.Code) == 1 && len(got) != 1 {
			t.Fatalf("W7: one thread has the outcomes %v: %+v", got, x)
		} else if len(x.Code) == 1 {
			ones++
		}
		last := len(x.Code) - 1
		other := x
		other.Code = slices.Clone(x.Code)
		other.Code[0], other.Code[last] = x.Code[last], x.Code[0]
		other.Regs[0], other.Regs[last] = x.Regs[last], x.Regs[0]
		turned := outcomes(t, other)
		for n := range turned {
			turned[n].Regs[0], turned[n].Regs[last] = turned[n].Regs[last], turned[n].Regs[0]
		}
		if !slices.Equal(cond.Sort(turned...), got) {
			t.Fatalf("W7: %v, in another order %v: %+v", got, turned, x)
		}
	}
	if ones < 60 {
		t.Errorf("drawn too thin: %d tests of one thread", ones)
	}
}

// 18.1: all of a Plain test counts that 13.2 hangs on, and nothing else.
func TestTheRestOfATest(t *testing.T) {
	t.Parallel()
	d := dice(189)
	for n := range 300 {
		x := d.drawn(n)
		y := x
		y.Name, y.Quant, y.Cond, y.Arch = "", d.among(odd), nil, api.RISCV+api.ARM-x.Arch
		if !slices.Equal(outcomes(t, x), outcomes(t, y)) {
			t.Fatalf("18.2: the rest of a test turns the outcomes: %+v", x)
		}
	}
}
