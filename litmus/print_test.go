package litmus_test

import (
	"slices"
	"strings"
	"testing"

	"belated/api"
	"belated/litmus"
)

// printed fails if a test is not written so, or not read again as it is.
func printed(t *testing.T, test api.Test, want string) {
	t.Helper()
	if text, e := litmus.Print(test); text != want || e != api.OK {
		t.Errorf("9.4: Print(%+v) = %q, %d, want %q", test, text, e, want)
	}
	if got := parse(want); !got.same(told{test: test}) {
		t.Errorf("9.5: Parse(%q) = %+v, want %+v", want, got, test)
	}
}

// 9.4: each architecture, each quantifier, one to three threads.
func TestPrintWhole(t *testing.T) {
	and, or, not := api.Cond{Kind: api.CondAnd}, api.Cond{Kind: api.CondOr}, api.Cond{Kind: api.CondNot}
	printed(t, api.Test{
		Arch: api.X86, Name: "SB", Init: [3]int{1},
		Code:  [][]api.Ins{{storeImm(1, 0), load(0, 1)}, {storeImm(1, 1), load(0, 0)}},
		Quant: api.Exists, Cond: []api.Cond{regIs(0, 0, 0), regIs(1, 0, 0), and},
	}, "X86 SB\n{ x=1; }\nP0 | P1 ;\nMOVQ [x],$1 | MOVQ [y],$1 ;\nMOVQ RAX,[y] | MOVQ RAX,[x] ;\nexists (0:RAX=0 /\\ 1:RAX=0)\n")
	printed(t, api.Test{
		Arch: api.RISCV, Name: "a.b", Init: [3]int{-5, 0, 16}, Regs: [3][8]int{{0, 3}, {}, {7: -1}},
		Code:  [][]api.Ins{{fence(3, 3)}, {store(0, 0)}, {load(1, 0), branch(1, false, 2)}},
		Quant: api.Forall, Cond: []api.Cond{locIs(0, 1), regIs(2, 7, -1), locIs(1, 0), or, and},
	}, "RISCV a.b\n{ x=-5; z=16; 0:a1=3; 2:a7=-1; }\nP0 | P1 | P2 ;\nfence rw,rw | sd a0,[x] | ld a1,[x] ;\n |  | bnez a1,L2 ;\n |  | L2: ;\nforall (x=1 /\\ (2:a7=-1 \\/ y=0))\n")
	printed(t, api.Test{
		Arch: api.ARM, Name: "_", Code: [][]api.Ins{nil},
		Quant: api.NotExists, Cond: []api.Cond{locIs(2, -1), not},
	}, "ARM _\n{ }\nP0 ;\n~ exists (~z=-1)\n")
	printed(t, small(nil, nil, nil), "X86 a\n{ }\nP0 | P1 | P2 ;\nexists (x=0)\n")
	full := code(fence(3, 3))
	printed(t, small(full, slices.Repeat(full, 3), slices.Repeat(full, 2)), "X86 a\n{ }\nP0 | P1 | P2 ;\nMFENCE | MFENCE | MFENCE ;\n | MFENCE | MFENCE ;\n | MFENCE |  ;\nexists (x=0)\n")
}

// 9.4: what is set: by location; by thread, register; nothing of what is 0.
func TestPrintSettings(t *testing.T) {
	test := small(nil, nil, nil)
	test.Arch, test.Init = api.ARM, [3]int{1, 2, 3}
	want := "{ x=1; y=2; z=3; "
	for thread := range test.Regs {
		for r := range test.Regs[thread] {
			test.Regs[thread][r] = -1 << 63
			want += string(rune('0'+thread)) + ":" + registerNames[api.ARM][r] + "=-9223372036854775808; "
		}
	}
	printed(t, test, "ARM a\n"+want+"}\nP0 | P1 | P2 ;\nexists (x=0)\n")
	test = small(nil, nil)
	test.Init[1], test.Regs[1][6], test.Regs[0][7], test.Regs[0][2] = 1<<63-1, 5, -6, 7
	printed(t, test, "X86 a\n{ y=9223372036854775807; 0:RCX=7; 0:R9=-6; 1:R8=5; }\nP0 | P1 ;\nexists (x=0)\n")
}

// 9.4: labels where branches go to, and only there.
func TestPrintLabels(t *testing.T) {
	full := fence(3, 3)
	for _, x := range []struct {
		test api.Test
		rows string
	}{
		{small(code(branch(0, true, 1))), "P0 ;\nJZ RAX,L1 ;\nL1: ;\n"},
		{small(code(branch(0, true, 1), full)), "P0 ;\nJZ RAX,L1 ;\nL1: MFENCE ;\n"},
		{small(code(branch(0, true, 2), full)), "P0 ;\nJZ RAX,L2 ;\nMFENCE ;\nL2: ;\n"},
		{small(code(branch(0, true, 3), branch(1, false, 3), branch(2, false, 3))), "P0 ;\nJZ RAX,L3 ;\nJNZ RBX,L3 ;\nJNZ RCX,L3 ;\nL3: ;\n"},
		{small(code(branch(0, true, 1), branch(1, false, 3), full)), "P0 ;\nJZ RAX,L1 ;\nL1: JNZ RBX,L3 ;\nMFENCE ;\nL3: ;\n"},
		{small(code(branch(0, true, 3), branch(0, false, 2), full, full), code(branch(1, false, 1), full)), "P0 | P1 ;\nJZ RAX,L3 | JNZ RBX,L1 ;\nJNZ RAX,L2 | L1: MFENCE ;\nL2: MFENCE |  ;\nL3: MFENCE |  ;\n"},
		{small(code(full), code(branch(1, false, 1))), "P0 | P1 ;\nMFENCE | JNZ RBX,L1 ;\n | L1: ;\n"},
		{small(code(branch(1, false, 1)), code(full)), "P0 | P1 ;\nJNZ RBX,L1 | MFENCE ;\nL1: |  ;\n"},
		{small(code(branch(1, false, 1)), nil, code(branch(1, false, 1), full)), "P0 | P1 | P2 ;\nJNZ RBX,L1 |  | JNZ RBX,L1 ;\nL1: |  | L1: MFENCE ;\n"},
		{small(append(slices.Repeat(code(full), 7), branch(7, true, 8))), "P0 ;\n" + strings.Repeat("MFENCE ;\n", 7) + "JZ R9,L8 ;\nL8: ;\n"},
	} {
		printed(t, x.test, "X86 a\n{ }\n"+x.rows+"exists (x=0)\n")
	}
	test := small(code(branch(3, true, 1), constant(1, -2)))
	test.Arch = api.RISCV
	printed(t, test, "RISCV a\n{ }\nP0 ;\nbeqz a3,L1 ;\nL1: li a1,-2 ;\nexists (x=0)\n")
	test.Arch = api.ARM
	printed(t, test, "ARM a\n{ }\nP0 ;\nCBZ X3,L1 ;\nL1: MOV X1,#-2 ;\nexists (x=0)\n")
}

// 9.4, 9.5: drawn tests, as the model writes them.
func TestPrintDrawn(t *testing.T) {
	d := drawn(94)
	for range 4000 {
		test := d.test()
		printed(t, test, modelPrint(test))
		if t.Failed() {
			return
		}
	}
}
