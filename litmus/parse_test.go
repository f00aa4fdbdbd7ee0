package litmus_test

import (
	"math"
	"slices"
	"strconv"
	"strings"
	"testing"

	"belated/api"
	"belated/litmus"
)

// Instructions, as the chapters 3 and 5 to 7 have them.

func fence(pred, succ int) api.Ins {
	return api.Ins{Op: api.OpFence, Dst: -1, A: -1, B: -1, Index: -1, Pred: pred, Succ: succ}
}

func branch(reg int, zero bool, to int) api.Ins {
	return api.Ins{Op: api.OpBranch, Dst: -1, A: reg, B: -1, Index: -1, Zero: zero, To: to}
}

func load(reg, loc int) api.Ins {
	return api.Ins{Op: api.OpLoad, Dst: reg, A: -1, B: -1, Index: -1, Loc: loc, Size: 8}
}

func store(reg, loc int) api.Ins {
	return api.Ins{Op: api.OpStore, Dst: -1, A: reg, B: -1, Index: -1, Loc: loc, Size: 8}
}

func storeImm(imm, loc int) api.Ins {
	i := store(-1, loc)
	i.Imm = imm
	return i
}

func constant(reg, imm int) api.Ins {
	return api.Ins{Op: api.OpConst, Dst: reg, A: -1, B: -1, Index: -1, Imm: imm}
}

func locIs(loc, value int) api.Cond { return api.Cond{Kind: api.CondLoc, Loc: loc, Value: value} }

func regIs(thread, reg, value int) api.Cond {
	return api.Cond{Kind: api.CondReg, Thread: thread, Reg: reg, Value: value}
}

func code(is ...api.Ins) []api.Ins { return is }

// small is a test of x86 with these codes, of `exists x=0`.
func small(codes ...[]api.Ins) api.Test {
	return api.Test{Arch: api.X86, Name: "a", Code: codes, Quant: api.Exists, Cond: []api.Cond{locIs(0, 0)}}
}

// parsed fails if a text is not read as a test, which is right.
func parsed(t *testing.T, text string, want api.Test) {
	t.Helper()
	if got := parse(text); !got.same(told{test: want}) {
		t.Errorf("9.3: Parse(%q) = %+v, want %+v", text, got, want)
	}
	if e := litmus.Check(want); e != api.OK {
		t.Errorf("9.5: Check of %q is %d", text, e)
	}
}

// refused fails if a text is not refused so.
func refused(t *testing.T, text string, e api.Errno, at int) {
	t.Helper()
	if got := parse(text); !got.same(told{e: e, at: at}) {
		t.Errorf("9.3: Parse(%.200q) = %+v, want %d at %d", text, got, e, at)
	}
}

// 9.2: each architecture, each quantifier, one to three threads.
func TestParseWhole(t *testing.T) {
	full := fence(3, 3)
	for text, want := range map[string]api.Test{
		"X86 SB { x=1; } P0 | P1 ; MOVQ [x],$1 | MOVQ [y],$1 ; MOVQ RAX,[y] | MOVQ RAX,[x] ; exists (0:RAX=0 /\\ 1:RAX=0)": {
			Arch: api.X86, Name: "SB", Init: [3]int{1},
			Code:  [][]api.Ins{{storeImm(1, 0), load(0, 1)}, {storeImm(1, 1), load(0, 0)}},
			Quant: api.Exists, Cond: []api.Cond{regIs(0, 0, 0), regIs(1, 0, 0), {Kind: api.CondAnd}},
		},
		"RISCV MP.1 {y=-3;1:a7=5;0:a0=0x10;} P0|P1; sd a0,[x] | ld a0,[y]; fence w,rw | ; sd a1,[y] | ld a1,[x]; ~ exists 1:a0=1 /\\ 1:a1=0": {
			Arch: api.RISCV, Name: "MP.1", Init: [3]int{0, -3, 0}, Regs: [3][8]int{{16}, {7: 5}},
			Code:  [][]api.Ins{{store(0, 0), fence(2, 3), store(1, 1)}, {load(0, 1), load(1, 0)}},
			Quant: api.NotExists, Cond: []api.Cond{regIs(1, 0, 1), regIs(1, 1, 0), {Kind: api.CondAnd}},
		},
		"ARM _ { 2:X3=7; } P0 | P1 | P2 ; MOV X0,#5 | | DMB SY ; | | STR X0,[z] ; forall ~(x=1 \\/ 2:X7=-1)": {
			Arch: api.ARM, Name: "_", Regs: [3][8]int{2: {3: 7}},
			Code:  [][]api.Ins{{constant(0, 5)}, {}, {full, store(0, 2)}},
			Quant: api.Forall, Cond: []api.Cond{locIs(0, 1), regIs(2, 7, -1), {Kind: api.CondOr}, {Kind: api.CondNot}},
		},
		"X86 a { } P0 ; exists x=0":                                    small(nil),
		"X86 a{}P0;;;;exists x=0":                                      small(nil),
		"X86 a { } P0 | P1 ; | ; exists x=0":                           small(nil, nil),
		"X86 a { } P0 | P1 | P2 ; exists x=0":                          small(nil, nil, nil),
		"X86 a { } P0 ; MFENCE ; exists x=0":                           small(code(full)),
		"X86 a { } P0 ; ; MFENCE ; ; MFENCE ; ; exists x=0":            small(code(full, full)),
		"X86 a { } P0 | P1 ; | MFENCE ; MFENCE | ; exists x=0":         small(code(full), code(full)),
		"X86 a { } P0|P1|P2; ||MFENCE; |MFENCE|; MFENCE||; exists x=0": small(code(full), code(full), code(full)),
	} {
		parsed(t, text, want)
	}
}

// 9.2: names of the test, of 1 to MaxName bytes, whatever they are elsewhere.
func TestParseName(t *testing.T) {
	for _, name := range []string{"a", "_", "_.", "A.b_9", "X86", "RISCV", "P0", "exists", "forall", "x", "RAX", "MOV", "abcdefghijklmnop"} {
		want := small(nil)
		want.Name = name
		parsed(t, "X86 "+name+" { } P0 ; exists x=0", want)
	}
	for _, name := range []string{"abcdefghijklmnopq", strings.Repeat("a", 4000)} {
		refused(t, "X86 "+name+" { } P0 ; exists x=0", api.ErrForm, 4)
		refused(t, "X86\n"+name, api.ErrForm, 4)
	}
}

// 9.2: what is set at the start: each location, each register of each thread.
func TestParseSettings(t *testing.T) {
	for _, arch := range arches {
		for l, name := range locationNames {
			want := api.Test{Arch: arch, Name: "a", Code: make([][]api.Ins, 3), Quant: api.Forall, Cond: []api.Cond{locIs(l, 2)}}
			want.Init[l] = 2
			parsed(t, archNames[arch]+" a { "+name+"=2; } P0|P1|P2; forall "+name+"=2", want)
		}
		for thread, number := range []string{"0", "1", "2"} {
			for r, name := range registerNames[arch] {
				want := api.Test{Arch: arch, Name: "a", Code: make([][]api.Ins, 3), Quant: api.Forall, Cond: []api.Cond{regIs(thread, r, -2)}}
				want.Regs[thread][r] = -2
				text := number + ":" + name + "=-2"
				parsed(t, archNames[arch]+" a { "+text+"; } P0|P1|P2; forall "+text, want)
			}
		}
	}
	for text, value := range map[string]int{"0": 0, "-0": 0, "007": 7, "0xfF": 255, "- 5": -5, "9223372036854775807": math.MaxInt, "-9223372036854775807": -math.MaxInt, "-9223372036854775808": math.MinInt, "9223372036854775808": math.MinInt, "0x8000000000000000": math.MinInt, "-0x8000000000000000": math.MinInt} {
		want := small(code(constant(0, value)))
		want.Init[2], want.Regs[0][7], want.Cond[0].Value = value, value, value
		parsed(t, "X86 a { z="+text+"; 0x0:R9="+text+"; } P0 ; MOV RAX,$"+text+" ; exists x="+text, want)
	}
	want := small(nil)
	want.Init, want.Regs[0] = [3]int{1, 2, 3}, [8]int{4, 5}
	parsed(t, "X86 a { 0:RBX=5; z=3; x=1; 0:RAX=4; y=2; } P0 ; exists x=0", want)
	parsed(t, "X86 a { z=0; 1:RAX=0; 2:RAX=0; } P0 ; exists x=0", small(nil))
}

// 9.2: labels at the start, in the middle, at the end of a column, several in
// one cell; names that mean something elsewhere.
func TestParseLabels(t *testing.T) {
	full := fence(3, 3)
	for text, want := range map[string]api.Test{
		"P0 ; A: MFENCE ;":                                            small(code(full)),
		"P0 ; A: ;":                                                   small(nil),
		"P0 ; JZ RAX,A ; A: ;":                                        small(code(branch(0, true, 1))),
		"P0 ; JZ RAX,A ; A: MFENCE ;":                                 small(code(branch(0, true, 1), full)),
		"P0 ; JZ RAX,A ; MFENCE ; A: ;":                               small(code(branch(0, true, 2), full)),
		"P0 ; JZ RAX,A ; A: ; ; B: ; MFENCE ;":                        small(code(branch(0, true, 1), full)),
		"P0 ; JZ RAX,B ; A: ; ; B: ; MFENCE ;":                        small(code(branch(0, true, 1), full)),
		"P0 ; A: B: JNZ R9,D ; MFENCE ; C: D: MFENCE ; E: F: ;":       small(code(branch(7, false, 2), full, full)),
		"P0 ; A: B: JNZ R9,F ; MFENCE ; C: D: MFENCE ; E: F: ;":       small(code(branch(7, false, 3), full, full)),
		"P0 | P1 ; JZ RAX,A | JZ RBX,A ; MFENCE | A: MFENCE ; A: | ;": small(code(branch(0, true, 2), full), code(branch(1, true, 1), full)),
		"P0 | P1 ; JZ RAX,A | B: ; A: | A: ;":                         small(code(branch(0, true, 1)), nil),
		"P0 ; JZ RAX,MOV ; MOV: MOV RAX,$1 ;":                         small(code(branch(0, true, 1), constant(0, 1))),
		"P0 ; JZ RAX,RAX ; RAX: MFENCE: MFENCE ;":                     small(code(branch(0, true, 1), full)),
		"P0 ; JZ RAX,exists ; exists: MFENCE ;":                       small(code(branch(0, true, 1), full)),
		"P0 ; exists: JZ RAX,forall ; MFENCE ; forall : ;":            small(code(branch(0, true, 2), full)),
		"P0 ; JZ RAX,P0 ; P0: x: JZ: _: L.1: ;":                       small(code(branch(0, true, 1))),
		"P0 ; JZ RAX,A ; JZ RAX,A ; JNZ RAX,B ; A: B: ;":              small(code(branch(0, true, 3), branch(0, true, 3), branch(0, false, 3))),
		"P0 | P1 ; | L: ; L: | JZ RAX,M ; | M: ;":                     small(nil, code(branch(0, true, 1))),
	} {
		parsed(t, "X86 a { } "+text+" exists x=0", want)
	}
	for _, name := range []string{"a0", "ld", "beqz", "exists", "rw"} {
		want := api.Test{Arch: api.RISCV, Name: "a", Code: [][]api.Ins{{branch(3, true, 1)}}, Quant: api.Exists, Cond: []api.Cond{locIs(0, 0)}}
		parsed(t, "RISCV a { } P0 ; beqz a3,"+name+" ; "+name+" : ; exists x=0", want)
	}
	for _, name := range []string{"X0", "LDR", "CBZ", "DMB", "SY"} {
		want := api.Test{Arch: api.ARM, Name: "a", Code: [][]api.Ins{{branch(3, false, 1), fence(3, 3)}}, Quant: api.Exists, Cond: []api.Cond{locIs(0, 0)}}
		parsed(t, "ARM a { } P0 ; CBNZ X3,"+name+" ; "+name+" : DMB SY ; exists x=0", want)
	}
}

// 9.3: faults, from the left, and where.
func TestParseRefused(t *testing.T) {
	for _, x := range []struct {
		text string
		e    api.Errno
		at   int
	}{
		// scan's, ahead of all others
		{"@", api.ErrByte, 0}, {"SPARC @", api.ErrByte, 6}, {"X86 a { x=1; x=2; } P0 ; exists x=0 12a", api.ErrNumber, 36}, {"SPARC (* a", api.ErrEnd, 6}, {"X86 a { } P0 ; exists x=0 \r", api.ErrByte, 26}, {strings.Repeat(" ", 8193), api.ErrLong, 0}, {"@" + strings.Repeat(" ", 8192), api.ErrLong, 0}, {strings.Repeat(" ", 8192), api.ErrEnd, 8192},
		// the architecture
		{"", api.ErrEnd, 0}, {" ", api.ErrEnd, 1}, {" (* a *)\n", api.ErrEnd, 9}, {"SPARC", api.ErrWord, 0}, {" x86", api.ErrWord, 1}, {"X86a", api.ErrWord, 0}, {"arm a", api.ErrWord, 0}, {"RISC-V", api.ErrWord, 0}, {"86", api.ErrForm, 0}, {"; X86", api.ErrForm, 0}, {"{ }", api.ErrForm, 0},
		// the name
		{"X86", api.ErrEnd, 3}, {"X86 \n", api.ErrEnd, 5}, {"X86 7", api.ErrForm, 4}, {"X86 { }", api.ErrForm, 4}, {"X86 -a { }", api.ErrForm, 4}, {"X86:", api.ErrForm, 3},
		// what is set
		{"X86 a", api.ErrEnd, 5}, {"X86 a b", api.ErrForm, 6}, {"X86 a: { }", api.ErrForm, 5}, {"X86 a P0 ;", api.ErrForm, 6}, {"X86 a ( }", api.ErrForm, 6}, {"X86 a }", api.ErrForm, 6}, {"X86 a { (* b *)", api.ErrEnd, 15}, {"X86 a { w=1; }", api.ErrWord, 8}, {"X86 a { X=1; }", api.ErrWord, 8}, {"X86 a { RAX=1; }", api.ErrWord, 8}, {"X86 a { P0 ;", api.ErrWord, 8}, {"X86 a { exists", api.ErrWord, 8},
		{"X86 a { x", api.ErrEnd, 9}, {"X86 a { x ;", api.ErrForm, 10}, {"X86 a { x 1; }", api.ErrForm, 10}, {"X86 a { x:1; }", api.ErrForm, 9}, {"X86 a { x= ", api.ErrEnd, 11}, {"X86 a { x=; }", api.ErrForm, 10}, {"X86 a { x=y; }", api.ErrForm, 10}, {"X86 a { x=- ", api.ErrEnd, 12}, {"X86 a { x=-; }", api.ErrForm, 11}, {"X86 a { x=--1; }", api.ErrForm, 11}, {"X86 a { x=$1; }", api.ErrForm, 10}, {"X86 a { x==1; }", api.ErrForm, 10},
		{"X86 a { x=1", api.ErrEnd, 11}, {"X86 a { x=1 }", api.ErrForm, 12}, {"X86 a { x=1, y=1; }", api.ErrForm, 11}, {"X86 a { x=1 y=1; }", api.ErrForm, 12}, {"X86 a { x=1;; }", api.ErrForm, 12}, {"X86 a { ; }", api.ErrForm, 8}, {"X86 a { = }", api.ErrForm, 8}, {"X86 a { [x]=1; }", api.ErrForm, 8}, {"X86 a { { } }", api.ErrForm, 8}, {"X86 a { ~x=1; }", api.ErrForm, 8},
		{"X86 a { 0", api.ErrEnd, 9}, {"X86 a { 0 RAX=1; }", api.ErrForm, 10}, {"X86 a { 0=1; }", api.ErrForm, 9}, {"X86 a { 0: ", api.ErrEnd, 11}, {"X86 a { 0:5=1; }", api.ErrForm, 10}, {"X86 a { 0:=1; }", api.ErrForm, 10}, {"X86 a { 0:x=1; }", api.ErrWord, 10}, {"X86 a { 0:a0=1; }", api.ErrWord, 10}, {"X86 a { 0:R10=1; }", api.ErrWord, 10}, {"RISCV a { 0:RAX=1; }", api.ErrWord, 12}, {"ARM a { 0:a0=1; }", api.ErrWord, 10}, {"ARM a { 0:X8=1; }", api.ErrWord, 10}, {"X86 a { 0:RAX", api.ErrEnd, 13}, {"X86 a { 0:RAX 1; }", api.ErrForm, 14}, {"X86 a { 0:RAX=RBX; }", api.ErrForm, 14},
		// a thread that there never is
		{"X86 a { 3:RAX=1; }", api.ErrForm, 8}, {"X86 a { 3", api.ErrForm, 8}, {"X86 a { 3:w", api.ErrForm, 8}, {"X86 a { -1:RAX=1; }", api.ErrForm, 8}, {"X86 a { -0:RAX=1; }", api.ErrForm, 8}, {"X86 a { 9223372036854775807:RAX=1; }", api.ErrForm, 8}, {"X86 a { 9223372036854775808:RAX=1; }", api.ErrForm, 8}, {"X86 a { 0x100000000:RAX=1; }", api.ErrForm, 8},
		// set twice, as soon as it is read
		{"X86 a { x=1; x=2; } P0 ; exists x=0", api.ErrTwice, 13}, {"X86 a { x=0; x", api.ErrTwice, 13}, {"X86 a { x=0; x=y", api.ErrTwice, 13}, {"X86 a { x=0; x=0; x=0; }", api.ErrTwice, 13}, {"X86 a { x=0; y=0; z=0; y=1; x=0; }", api.ErrTwice, 23}, {"X86 a { 0:RAX=1; 0:RAX", api.ErrTwice, 17}, {"X86 a { 0:RAX=0; 1:RAX=0; 0:RBX=0; x=0; 1:RAX ;", api.ErrTwice, 40}, {"X86 a { 0:RAX=1; 00:RAX=1; }", api.ErrTwice, 17}, {"X86 a { 0:RAX=1; 0x0 : RAX", api.ErrTwice, 17}, {"X86 a { 0:RAX=1; 0:", api.ErrEnd, 19}, {"X86 a { 0:RAX=1; 0:w", api.ErrWord, 19}, {"X86 a { 0:RAX=1; 0", api.ErrEnd, 18}, {"X86 a { x=1; w=1; x=1; }", api.ErrWord, 13}, {"X86 a { 2:R9=1; x=1; 2:R9=1; }", api.ErrTwice, 21},
		// the head
		{"X86 a { }", api.ErrEnd, 9}, {"X86 a { } ;", api.ErrForm, 10}, {"X86 a { } P1 ;", api.ErrForm, 10}, {"X86 a { } p0 ;", api.ErrForm, 10}, {"X86 a { } 0 ;", api.ErrForm, 10}, {"X86 a { } P00 ;", api.ErrForm, 10}, {"X86 a { } }", api.ErrForm, 10}, {"X86 a { } | P0 ;", api.ErrForm, 10}, {"X86 a { } exists x=0", api.ErrForm, 10}, {"X86 a { } P0 ", api.ErrEnd, 13}, {"X86 a { } P0:", api.ErrForm, 12}, {"X86 a { } P0 P1 ;", api.ErrForm, 13}, {"X86 a { } P0 , P1 ;", api.ErrForm, 13}, {"X86 a { } P0 |", api.ErrEnd, 14}, {"X86 a { } P0 | ;", api.ErrForm, 15}, {"X86 a { } P0 | P0 ;", api.ErrForm, 15}, {"X86 a { } P0 | P2 ;", api.ErrForm, 15}, {"X86 a { } P0 | P1 P2 ;", api.ErrForm, 18}, {"X86 a { } P0 | P1 | P2 | P3 ;", api.ErrForm, 23}, {"X86 a { } P0 | P1 | P2 |", api.ErrForm, 23}, {"X86 a { } P0 | P1 | P2", api.ErrEnd, 22}, {"X86 a { } P0 | P1 | P3 ;", api.ErrForm, 20},
		// cells too few, too many
		{"X86 a { } P0 ; MFENCE | MFENCE ;", api.ErrForm, 22}, {"X86 a { } P0 ; | ;", api.ErrForm, 15}, {"X86 a { } P0 ; L: | ;", api.ErrForm, 18}, {"X86 a { } P0 | P1 ; MFENCE ;", api.ErrForm, 27}, {"X86 a { } P0 | P1 ; ;", api.ErrForm, 20}, {"X86 a { } P0 | P1 ; L: ;", api.ErrForm, 23}, {"X86 a { } P0 | P1 ; | | ;", api.ErrForm, 22}, {"X86 a { } P0 | P1 | P2 ; | ;", api.ErrForm, 27}, {"X86 a { } P0 | P1 | P2 ; | | | ;", api.ErrForm, 29}, {"X86 a { } P0 | P1 ; MFENCE | MFENCE ; MFENCE ;", api.ErrForm, 45},
		// the text ends within rows
		{"X86 a { } P0 ;", api.ErrEnd, 14}, {"X86 a { } P0 ; MFENCE (* a *) ", api.ErrEnd, 30}, {"X86 a { } P0 ; MFENCE ;", api.ErrEnd, 23}, {"X86 a { } P0 | P1 ; MFENCE |", api.ErrEnd, 28}, {"X86 a { } P0 | P1 ; MFENCE | MFENCE", api.ErrEnd, 35}, {"X86 a { } P0 ; L:", api.ErrEnd, 17}, {"X86 a { } P0 ; L: ", api.ErrEnd, 18},
		// the language's faults
		{"X86 a { } P0 ; FOO ;", api.ErrWord, 15}, {"X86 a { } P0 ; L ;", api.ErrWord, 15}, {"X86 a { } P0 ; L", api.ErrWord, 15}, {"X86 a { } P0 ; L: M", api.ErrWord, 18}, {"X86 a { } P0 ; mfence ;", api.ErrWord, 15}, {"X86 a { } P0 ; DMB SY ;", api.ErrWord, 15}, {"RISCV a { } P0 ; MFENCE ;", api.ErrWord, 17}, {"ARM a { } P0 ; fence rw,rw ;", api.ErrWord, 15}, {"X86 a { } P0 ; MOV RXX,$1 ;", api.ErrWord, 19}, {"X86 a { } P0 ; MOVQ RAX,[w] ;", api.ErrWord, 25}, {"X86 a { } P0 ; , ;", api.ErrForm, 15}, {"X86 a { } P0 ; 5: ;", api.ErrForm, 15}, {"X86 a { } P0 ; : ;", api.ErrForm, 15}, {"X86 a { } P0 ; L:: ;", api.ErrForm, 17}, {"X86 a { } P0 ; MOV RAX,5 ;", api.ErrForm, 23}, {"X86 a { } P0 ; MFENCE MFENCE ;", api.ErrMore, 22}, {"X86 a { } P0 ; MFENCE L: ;", api.ErrMore, 22}, {"X86 a { } P0 ; MFENCE exists x=0", api.ErrMore, 22}, {"X86 a { } P0 ; JZ RAX,L: ;", api.ErrMore, 23}, {"X86 a { } P0 ; MOVL [x+3],RBX ;", api.ErrIns, 15}, {"X86 a { } P0 ; L: MOVL [x+3],RBX ;", api.ErrIns, 18}, {"X86 a { } P0 ; MOVL [x+3],RBX", api.ErrIns, 15}, {"X86 a { } P0 | P1 ; | MOVL [x+3],RBX ;", api.ErrIns, 22},
		{"X86 a { } P0 ; MOV: RAX,$1 ;", api.ErrWord, 20}, {"X86 a { } P0 ; L: exists x=0", api.ErrWord, 18}, {"X86 a { } P0 ; L: ~ exists x=0", api.ErrForm, 18}, {"X86 a { } P0 ; exists: x=0", api.ErrWord, 23}, {"X86 a { } P0 ; forall : ~x=0", api.ErrForm, 24}, {"X86 a { } P0 | P1 ; | exists x=0", api.ErrWord, 22}, {"X86 a { } P0 | P1 ; | ~ exists x=0", api.ErrForm, 22},
		// its ErrEnd, at the mark behind
		{"X86 a { } P0 ; MOV ; exists x=0", api.ErrEnd, 19}, {"X86 a { } P0 ; MOV; exists x=0", api.ErrEnd, 18}, {"X86 a { } P0 ; MOV RAX,  ; ; ;", api.ErrEnd, 25}, {"X86 a { } P0 | P1 ; MOV | ; exists x=0", api.ErrEnd, 24}, {"X86 a { } P0 | P1 ; | MOVQ [x (* a *) ; exists x=0", api.ErrEnd, 38}, {"X86 a { } P0 ; MOV", api.ErrEnd, 18}, {"X86 a { } P0 ; MOV  ", api.ErrEnd, 20}, {"X86 a { } P0 ; MOV RAX,$- ;", api.ErrEnd, 26}, {"RISCV a { } P0 ; fence ;", api.ErrEnd, 23}, {"ARM a { } P0 ; DMB;", api.ErrEnd, 18},
		// labels twice
		{"X86 a { } P0 ; A: A: ;", api.ErrTwice, 18}, {"X86 a { } P0 ; A: B: A:", api.ErrTwice, 21}, {"X86 a { } P0 ; A: A: FOO", api.ErrTwice, 18}, {"X86 a { } P0 ; A: ; A: ;", api.ErrTwice, 20}, {"X86 a { } P0 ; A: MFENCE ; MFENCE ; B: A: MFENCE ;", api.ErrTwice, 39}, {"X86 a { } P0 | P1 ; A: | B: ; B: | A: ; | B: ;", api.ErrTwice, 42}, {"X86 a { } P0 ; A: FOO ; A: ;", api.ErrWord, 18}, {"X86 a { } P0 ; exists: exists: ;", api.ErrTwice, 23}, {"X86 a { } P0 ; A: ; A ;", api.ErrWord, 20},
		// the quantifier
		{"X86 a { } P0 ; ~", api.ErrEnd, 16}, {"X86 a { } P0 ; ~ ", api.ErrEnd, 17}, {"X86 a { } P0 ; ~ forall x=0", api.ErrForm, 17}, {"X86 a { } P0 ; ~ ~ exists x=0", api.ErrForm, 17}, {"X86 a { } P0 ; ~ x=0", api.ErrForm, 17}, {"X86 a { } P0 ; ~ 5", api.ErrForm, 17}, {"X86 a { } P0 ; ~ exist x=0", api.ErrForm, 17}, {"X86 a { } P0 ; ~ exists: x=0", api.ErrForm, 23}, {"X86 a { } P0 ; Exists x=0", api.ErrWord, 15}, {"X86 a { } P0 ; x=0", api.ErrWord, 15}, {"X86 a { } P0 ; (x=0)", api.ErrForm, 15},
		// the condition's faults
		{"X86 a { } P0 ; exists", api.ErrEnd, 21}, {"X86 a { } P0 ; exists \n ", api.ErrEnd, 24}, {"X86 a { } P0 ; ~ exists ", api.ErrEnd, 24}, {"X86 a { } P0 ; forall", api.ErrEnd, 21}, {"X86 a { } P0 ; exists x=  ", api.ErrEnd, 26}, {"X86 a { } P0 ; exists (x=0 (* a *)", api.ErrEnd, 34}, {"X86 a { } P0 ; exists x=0 /\\", api.ErrEnd, 28}, {"X86 a { } P0 ; exists w=0", api.ErrWord, 22}, {"X86 a { } P0 ; exists exists x=0", api.ErrWord, 22}, {"X86 a { } P0 ; exists 0:a0=0", api.ErrWord, 24}, {"ARM a { } P0 ; exists 0:a0=0", api.ErrWord, 24}, {"RISCV a { } P0 ; exists 0:X0=0", api.ErrWord, 26}, {"X86 a { } P0 ; exists 3:RAX=0", api.ErrForm, 22}, {"X86 a { } P0 ; exists ;", api.ErrForm, 22}, {"X86 a { } P0 ; exists ()", api.ErrForm, 23}, {"X86 a { } P0 ; exists x:0", api.ErrForm, 23}, {"X86 a { } P0 ; exists x=0 ;", api.ErrMore, 26}, {"X86 a { } P0 ; exists x=0 exists x=0", api.ErrMore, 26}, {"X86 a { } P0 ; exists (x=0))", api.ErrMore, 27},
	} {
		refused(t, x.text, x.e, x.at)
	}
}

// 9.3: what is asked of the whole, behind all that is read: labels, then what
// Check says.
func TestParseRefusedAtLast(t *testing.T) {
	const last = "exists x=0"
	fences := func(n int) string { return strings.Repeat("MFENCE ; ", n) }
	loads := func(n int) string { return strings.Repeat("MOVQ RAX,[x] ; ", n) }
	jumps := func(n int) string { return strings.Repeat("JZ RAX,e ; ", n) }
	for _, x := range []struct {
		text string
		e    api.Errno
		at   int
	}{
		{"P0 ; JZ RAX,L ; ", api.ErrLabel, 15}, {"P0 ; A: B: JZ RAX,L ; ", api.ErrLabel, 21}, {"P0 ; JZ RAX,JZ ; ", api.ErrLabel, 15}, {"P0 ; JZ RAX,L ; l: ; ", api.ErrLabel, 15}, {"P0 | P1 ; JZ RAX,L | L: ; ", api.ErrLabel, 20}, {"P0 | P1 ; L: | JZ RAX,L ; ", api.ErrLabel, 25},
		{"P0 | P1 ; | JZ RAX,L ; JZ RAX,L | ; ", api.ErrLabel, 33}, {"P0 ; JZ RAX,A ; A: JZ RAX,L ; JZ RAX,M ; ", api.ErrLabel, 29},
		{"P0 ; JZ RAX,L ; " + fences(9), api.ErrLabel, 15}, {"P0 ; L: JZ RAX,L ; JZ RAX,M ; ", api.ErrLabel, 29}, {"P0 ; " + loads(7) + "JZ RAX,L ; ", api.ErrLabel, 120}, {"P0 | P1 ; L: JZ RAX,L | JZ RAX,L ; ", api.ErrLabel, 34},
		{"P0 ; L: JZ RAX,L ; ", api.ErrTarget, 18}, {"P0 ; L: ; JZ RAX,L ; ", api.ErrTarget, 20}, {"P0 ; L: MFENCE ; B: JZ RAX,L ; ", api.ErrTarget, 30}, {"P0 | P1 ; | L: JZ RAX,L ; ", api.ErrTarget, 25}, {"P0 | P1 ; L: JZ RAX,M | L: JZ RAX,L ; M: JZ RAX,M | ; ", api.ErrTarget, 51}, {"P0 ; L: " + loads(7) + "JZ RAX,L ; ", api.ErrTarget, 123}, {"P0 ; L: JZ RAX,L ; e: JZ RAX,e ; " + fences(6), api.ErrTarget, 18},
		{"P0 ; " + fences(9), api.ErrCode, 0}, {"P0 | P1 ; " + strings.Repeat("| MFENCE ; ", 9), api.ErrCode, 0}, {"P0 ; L: JZ RAX,L ; " + fences(8), api.ErrCode, 0}, {"P0 ; " + loads(9), api.ErrCode, 0},
		{"P0 ; " + loads(7), api.ErrOps, 0}, {"P0 | P1 ; " + strings.Repeat("MOVQ RAX,[x] | MOVQ [x],RAX ; ", 3) + "| XCHGB RAX,[y] ; ", api.ErrOps, 0}, {"P0 ; " + jumps(4) + "e: ; ", api.ErrBranches, 0}, {"P0 | P1 ; " + strings.Repeat("JZ RAX,e | JNZ RAX,e ; ", 2) + "e: | e: ; ", api.ErrBranches, 0},
		{"P0 | P1 ; " + strings.Repeat("MOVQ RAX,[x] | JZ RAX,e ; ", 4) + "MOVQ RAX,[x] | e: ; MOVQ RAX,[x] | ; MOVQ RAX,[x] | ; ", api.ErrOps, 0},
	} {
		refused(t, "X86 a { } "+x.text+last, x.e, x.at)
	}
	for text, e := range map[string]api.Errno{"1:RAX=1; } P0 ; ": api.ErrArg, "2:R9=-1; } P0 | P1 ; ": api.ErrArg, "1:RAX=1; } P0 ; " + fences(9): api.ErrCode} {
		refused(t, "X86 a { "+text+last, e, 0)
	}
	refused(t, "X86 a { 1:RAX=1; } P0 ; JZ RAX,L ; "+last, api.ErrLabel, 24)
	refused(t, "X86 a { 1:RAX=1; } P0 ; L: JZ RAX,L ; "+last, api.ErrTarget, 27)
	refused(t, "X86 a { 1:RAX=1; } P0 ; JZ RAX,L ; exists x=0 0", api.ErrMore, 46)
	refused(t, "X86 a { } P0 ; L: JZ RAX,L ; exists w", api.ErrWord, 36)
}

// 9.3: the most that may be.
func TestParseMost(t *testing.T) {
	full, jump := fence(3, 3), branch(0, true, 3)
	parsed(t, "X86 a { } P0 ; "+strings.Repeat("MFENCE ; ", 8)+"exists x=0", small(slices.Repeat(code(full), 8)))
	parsed(t, "X86 a { } P0 | P1 | P2 ; "+strings.Repeat("MFENCE | MFENCE | MFENCE ; ", 8)+"exists x=0", small(slices.Repeat(code(full), 8), slices.Repeat(code(full), 8), slices.Repeat(code(full), 8)))
	parsed(t, "X86 a { } P0 ; "+strings.Repeat("MOVQ RAX,[x] ; ", 6)+"exists x=0", small(slices.Repeat(code(load(0, 0)), 6)))
	parsed(t, "X86 a { } P0 ; "+strings.Repeat("JZ RAX,e ; ", 3)+"e: ; exists x=0", small(slices.Repeat(code(jump), 3)))
	parsed(t, "X86 a { } P0 ; JZ RAX,e ; "+strings.Repeat("MFENCE ; ", 7)+"e: ; exists x=0", small(append(code(branch(0, true, 8)), slices.Repeat(code(full), 7)...)))
	text := "X86 a { } P0 ; exists x=0"
	parsed(t, text+strings.Repeat(" ", api.MaxText-len(text)), small(nil))
	parsed(t, "X86 a { } P0 "+strings.Repeat(";", api.MaxText-25)+" exists x=0", small(nil))
	var labels strings.Builder
	for labels.Len() < 7000 {
		labels.WriteString("L" + strconv.Itoa(labels.Len()) + ": ")
	}
	parsed(t, "X86 a { } P0 ; "+labels.String()+"; exists x=0", small(nil))
	claims := "x=0" + strings.Repeat(" /\\ x=0", 15)
	want := small(nil)
	want.Cond = append(append([]api.Cond{}, want.Cond...), slices.Repeat([]api.Cond{locIs(0, 0), {Kind: api.CondAnd}}, 15)...)
	parsed(t, "X86 a { } P0 ; exists "+claims, want)
	want.Cond = append(want.Cond, api.Cond{Kind: api.CondNot})
	parsed(t, "X86 a { } P0 ; exists ~("+claims+")", want)
	refused(t, "X86 a { } P0 ; exists ~~("+claims+")", api.ErrLong, 22)
	refused(t, "X86 a { } P0 ; ~ exists\n "+claims+" \\/ x=0", api.ErrLong, 25)
	refused(t, "X86 a { } P0 ; L: JZ RAX,M ; exists "+claims+" \\/ x=0", api.ErrLong, 36)
	refused(t, "X86 a { } P0 ; exists "+claims+" \\/ x=0 x", api.ErrMore, 138)
}

// samples is right texts of many forms.
var samples = []string{
	"X86 SB { x=1; } P0 | P1 ; MOVQ [x],$1 | MOVQ [y],$-1 ; MOVL RAX,[y+4+RBX] | MOVQ RAX,[x] ; exists (0:RAX=0 /\\ 1:RAX=0)",
	"RISCV a.b { z=0x10; 2:a7=-1; 0:a1=0; } P0 | P1 | P2 ; | sd a0,[x] | ; fence rw,rw | | ld a1,[x]; ~ exists (x=1 \\/ ~y=-2)",
	"ARM a { } P0 | P1 ; A: B: CBZ X0,end | CBNZ X1,C ; CBNZ X0,D | ; D: DMB LD | exists: forall: ; end: C: | C: SWPAL X0,X1,[y]; forall x=0",
	"X86 a { } P0 ; JZ RAX,P0 ; P0: ; exists ~(x=0)",
	"X86 a { } P0 ; ~ exists x=0",
}

// cut is a sample, which is right, as its words.
func cut(t *testing.T, text string) []string {
	t.Helper()
	if got := parse(text); got.e != api.OK {
		t.Fatalf("9.3: Parse(%q): %d at %d", text, got.e, got.at)
	}
	return wordsOf(t, text)
}

// 9.2: blanks, line ends and remarks everywhere that words may part.
func TestParseBlanks(t *testing.T) {
	for _, text := range samples {
		want := parse(text)
		texts := cut(t, text)
		for _, blank := range []string{" ", "\n", "\t", " \n\t\n ", "(**)", " (* exists ; | *)\n"} {
			for _, laid := range []string{strings.Join(texts, blank), blank + strings.Join(texts, blank) + blank} {
				if got := parse(laid); got.e != api.OK || !got.same(want) {
					t.Errorf("9.2: Parse(%q) = %+v, want %+v", laid, got, want)
				}
			}
		}
	}
}

// 9.3: a text that is cut off behind each of its words: what is missing is
// missed at its end. A name that has lost its `:` is no label any more.
func TestParseCutOff(t *testing.T) {
	for _, text := range samples {
		texts := cut(t, text)
		for n := range texts {
			for _, tail := range []string{"", "  ", "\n(* a *)"} {
				part := strings.Join(texts[:n], " ") + tail
				if n > 0 && texts[n] == ":" && texts[n-1] > "9" {
					refused(t, part, api.ErrWord, len(strings.Join(texts[:n-1], " "))+1)
				} else {
					refused(t, part, api.ErrEnd, len(part))
				}
			}
		}
	}
}

// 9.3: a word too many, behind each text.
func TestParseTooMany(t *testing.T) {
	for _, text := range samples {
		for _, word := range []string{"x", "exists", "0", ";", "|", ")", "}", "~", ":", "MFENCE", "X86"} {
			refused(t, text+" "+word, api.ErrMore, len(text)+1)
		}
	}
}

// sameParse fails if Parse and the model do not tell the same of a text.
func sameParse(t *testing.T, text string) {
	t.Helper()
	if got, want := parse(text), modelParse(text); !got.same(want) {
		t.Fatalf("9.3: Parse(%q) = %+v, want %+v", text, got, want)
	}
}

var vocabulary = strings.Fields(`X86 ARM a x w 0 3 - = ; : { } | P0 P1 P3 exists forall ~ ( ) MFENCE MOV RAX X1 JZ L , [ $ /\`)

// 9.3: behind beginnings of many forms, all rows of a few words.
func TestParseShortRows(t *testing.T) {
	for begin, most := range map[string]int{
		"": 2, "X86": 2, "X86 a": 2, "X86 a {": 3, "ARM a { x =": 2, "X86 a { x = 0 ; 0 : RAX = 1 ;": 3, "X86 a { }": 2, "X86 a { } P0": 3, "X86 a { } P0 | P1 | P2": 2,
		"X86 a { } P0 ;": 3, "X86 a { } P0 | P1 ;": 3, "X86 a { } P0 ; exists : L :": 3, "X86 a { } P0 ; JZ RAX , L ; P0 :": 3, "X86 a { } P0 | P1 ; | L : MFENCE": 2, "X86 a { } P0 ; ~": 2, "ARM a { } P0 ; forall": 2, "X86 a { } P0 ; JZ RAX , L ; exists x = 0": 2, "X86 a { 1 : RAX = 3 ; } P0 ; exists x =": 2,
	} {
		var each func(text string, left int)
		each = func(text string, left int) {
			sameParse(t, text)
			for _, word := range vocabulary {
				if left > 0 {
					each(text+" "+word, left-1)
				}
			}
		}
		each(begin, most)
	}
}

// 9.3: texts with a word less, more, another one, or two turned.
func TestParseSpoilt(t *testing.T) {
	for _, text := range samples {
		texts := cut(t, text)
		join := func(texts []string) string { return strings.Join(texts, " ") }
		for k := range texts {
			sameParse(t, join(slices.Delete(slices.Clone(texts), k, k+1)))
			for n := range k {
				turned := slices.Clone(texts)
				turned[n], turned[k] = turned[k], turned[n]
				sameParse(t, join(turned))
			}
			for _, word := range vocabulary {
				sameParse(t, join(slices.Insert(slices.Clone(texts), k, word)))
				other := slices.Clone(texts)
				other[k] = word
				sameParse(t, join(other))
			}
		}
	}
}

// 9.3: drawn texts of drawn tests, and these with a few words spoilt.
func TestParseDrawn(t *testing.T) {
	d := drawn(93)
	for range 4000 {
		want := d.test()
		texts := wordsOf(t, strings.Join(d.loose(want), " "))
		text := d.laid(texts)
		if len(text) > api.MaxText {
			text = strings.Join(texts, " ")
		}
		parsed(t, text, want)
		for range 4 {
			k := d.below(len(texts))
			switch d.below(4) {
			case 0:
				texts = slices.Delete(texts, k, k+1)
			case 1:
				texts = slices.Insert(texts, k, pick(&d, vocabulary))
			case 2:
				texts[k] = pick(&d, vocabulary)
			default:
				n := d.below(len(texts))
				texts[k], texts[n] = texts[n], texts[k]
			}
			sameParse(t, d.laid(texts))
		}
	}
}
