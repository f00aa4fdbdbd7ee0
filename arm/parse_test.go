package arm_test

import (
	"math"
	"slices"
	"strings"
	"testing"

	"belated/api"
	"belated/arm"
)

// with is an instruction with its fields set.
func with(op int, set func(i *api.Ins)) api.Ins {
	i := bare(op)
	set(&i)
	return i
}

func konst(dst, imm int) api.Ins {
	return with(api.OpConst, func(i *api.Ins) { i.Dst, i.Imm = dst, imm })
}

func move(dst, a int) api.Ins {
	return with(api.OpMove, func(i *api.Ins) { i.Dst, i.A = dst, a })
}

func alu(fn, dst, a, b, imm int) api.Ins {
	return with(api.OpAlu, func(i *api.Ins) { i.Fn, i.Dst, i.A, i.B, i.Imm = fn, dst, a, b, imm })
}

func at(loc, off, index, size int, i api.Ins) api.Ins {
	i.Loc, i.Off, i.Index, i.Size = loc, off, index, size
	return i
}

func load(dst int) api.Ins {
	return with(api.OpLoad, func(i *api.Ins) { i.Dst = dst })
}

func acquire(dst int) api.Ins {
	return with(api.OpLoad, func(i *api.Ins) { i.Dst, i.Acq = dst, true })
}

func weak(dst int) api.Ins {
	return with(api.OpLoad, func(i *api.Ins) { i.Dst, i.Weak = dst, true })
}

func store(a, imm int) api.Ins {
	return with(api.OpStore, func(i *api.Ins) { i.A, i.Imm = a, imm })
}

func release(a int) api.Ins {
	return with(api.OpStore, func(i *api.Ins) { i.A, i.Rel = a, true })
}

func rmw(fn, a, dst int, acq, rel bool) api.Ins {
	return with(api.OpRmw, func(i *api.Ins) { i.Fn, i.A, i.Dst, i.Acq, i.Rel = fn, a, dst, acq, rel })
}

func fence(pred, succ int) api.Ins {
	return with(api.OpFence, func(i *api.Ins) { i.Pred, i.Succ = pred, succ })
}

func branch(a int, zero bool) api.Ins {
	return with(api.OpBranch, func(i *api.Ins) { i.A, i.Zero = a, zero })
}

// sample is a text as Print writes it, and what it means.
type sample struct {
	text  string
	i     api.Ins
	label string
}

// samples is each row of 7.1's table, in each of its forms and sizes.
func samples() []sample {
	const swap, add = api.FnSwap, api.FnAdd
	return []sample{
		{"MOV X0,#0", konst(0, 0), ""}, {"MOV X7,#5", konst(7, 5), ""}, {"MOV X5,#-1", konst(5, -1), ""},
		{"MOV X2,#9223372036854775807", konst(2, math.MaxInt), ""}, {"MOV X2,#-9223372036854775808", konst(2, math.MinInt), ""},
		{"MOV X0,X1", move(0, 1), ""}, {"MOV X7,X6", move(7, 6), ""}, {"MOV X4,X4", move(4, 4), ""},
		{"ADD X0,X1,X2", alu(api.FnAdd, 0, 1, 2, 0), ""}, {"SUB X3,X4,X5", alu(api.FnSub, 3, 4, 5, 0), ""}, {"EOR X6,X7,X0", alu(api.FnXor, 6, 7, 0, 0), ""}, {"AND X7,X0,X0", alu(api.FnAnd, 7, 0, 0, 0), ""}, {"ORR X1,X1,X1", alu(api.FnOr, 1, 1, 1, 0), ""},
		{"ADD X0,X1,#7", alu(api.FnAdd, 0, 1, -1, 7), ""}, {"SUB X3,X4,#-7", alu(api.FnSub, 3, 4, -1, -7), ""}, {"EOR X6,X6,#0", alu(api.FnXor, 6, 6, -1, 0), ""}, {"AND X7,X0,#255", alu(api.FnAnd, 7, 0, -1, 255), ""}, {"ORR X0,X0,#-9223372036854775808", alu(api.FnOr, 0, 0, -1, math.MinInt), ""},

		{"LDRB X0,[x]", at(0, 0, -1, 1, load(0)), ""}, {"LDRH X1,[y]", at(1, 0, -1, 2, load(1)), ""}, {"LDRW X2,[z]", at(2, 0, -1, 4, load(2)), ""}, {"LDR X3,[x]", at(0, 0, -1, 8, load(3)), ""},
		{"LDRB X0,[x+7]", at(0, 7, -1, 1, load(0)), ""}, {"LDRH X1,[y+2]", at(1, 2, -1, 2, load(1)), ""}, {"LDRW X2,[z+4]", at(2, 4, -1, 4, load(2)), ""},
		{"LDRB X0,[x+X7]", at(0, 0, 7, 1, load(0)), ""}, {"LDRH X1,[y+X1]", at(1, 0, 1, 2, load(1)), ""}, {"LDRW X2,[z+X3]", at(2, 0, 3, 4, load(2)), ""}, {"LDR X3,[y+X0]", at(1, 0, 0, 8, load(3)), ""},
		{"LDRB X7,[z+1+X0]", at(2, 1, 0, 1, load(7)), ""}, {"LDRH X6,[x+6+X1]", at(0, 6, 1, 2, load(6)), ""}, {"LDRW X5,[y+4+X5]", at(1, 4, 5, 4, load(5)), ""},

		{"LDARB X0,[x]", at(0, 0, -1, 1, acquire(0)), ""}, {"LDARH X1,[y]", at(1, 0, -1, 2, acquire(1)), ""}, {"LDARW X2,[z]", at(2, 0, -1, 4, acquire(2)), ""}, {"LDAR X3,[x]", at(0, 0, -1, 8, acquire(3)), ""},
		{"LDARB X0,[x+6]", at(0, 6, -1, 1, acquire(0)), ""}, {"LDARH X1,[y+X2]", at(1, 0, 2, 2, acquire(1)), ""}, {"LDARW X2,[z+4+X7]", at(2, 4, 7, 4, acquire(2)), ""}, {"LDAR X7,[z+X7]", at(2, 0, 7, 8, acquire(7)), ""},

		{"LDAPRB X0,[x]", at(0, 0, -1, 1, weak(0)), ""}, {"LDAPRH X1,[y]", at(1, 0, -1, 2, weak(1)), ""}, {"LDAPRW X2,[z]", at(2, 0, -1, 4, weak(2)), ""}, {"LDAPR X3,[x]", at(0, 0, -1, 8, weak(3)), ""},
		{"LDAPRB X0,[x+5+X0]", at(0, 5, 0, 1, weak(0)), ""}, {"LDAPRH X1,[y+4]", at(1, 4, -1, 2, weak(1)), ""}, {"LDAPRW X2,[z+X6]", at(2, 0, 6, 4, weak(2)), ""}, {"LDAPR X6,[y+X1]", at(1, 0, 1, 8, weak(6)), ""},

		{"STRB X0,[x]", at(0, 0, -1, 1, store(0, 0)), ""}, {"STRH X1,[y]", at(1, 0, -1, 2, store(1, 0)), ""}, {"STRW X2,[z]", at(2, 0, -1, 4, store(2, 0)), ""}, {"STR X3,[x]", at(0, 0, -1, 8, store(3, 0)), ""},
		{"STRB X0,[x+3]", at(0, 3, -1, 1, store(0, 0)), ""}, {"STRH X1,[y+4]", at(1, 4, -1, 2, store(1, 0)), ""}, {"STRW X2,[z+4]", at(2, 4, -1, 4, store(2, 0)), ""},
		{"STRB X0,[x+X7]", at(0, 0, 7, 1, store(0, 0)), ""}, {"STRH X1,[y+X1]", at(1, 0, 1, 2, store(1, 0)), ""}, {"STRW X2,[z+X3]", at(2, 0, 3, 4, store(2, 0)), ""}, {"STR X3,[z+X0]", at(2, 0, 0, 8, store(3, 0)), ""},
		{"STRB X7,[z+5+X0]", at(2, 5, 0, 1, store(7, 0)), ""}, {"STRH X6,[x+2+X1]", at(0, 2, 1, 2, store(6, 0)), ""}, {"STRW X5,[y+4+X5]", at(1, 4, 5, 4, store(5, 0)), ""},

		{"STLRB X0,[x]", at(0, 0, -1, 1, release(0)), ""}, {"STLRH X1,[y]", at(1, 0, -1, 2, release(1)), ""}, {"STLRW X2,[z]", at(2, 0, -1, 4, release(2)), ""}, {"STLR X3,[x]", at(0, 0, -1, 8, release(3)), ""},
		{"STLRB X0,[x+2]", at(0, 2, -1, 1, release(0)), ""}, {"STLRH X1,[y+6+X2]", at(1, 6, 2, 2, release(1)), ""}, {"STLRW X2,[y+X3]", at(1, 0, 3, 4, release(2)), ""}, {"STLR X5,[x+X4]", at(0, 0, 4, 8, release(5)), ""},

		{"SWPB X1,X0,[x+7]", at(0, 7, -1, 1, rmw(swap, 1, 0, false, false)), ""}, {"SWPAB X3,X2,[y]", at(1, 0, -1, 1, rmw(swap, 3, 2, true, false)), ""}, {"SWPLB X5,X4,[z+X6]", at(2, 0, 6, 1, rmw(swap, 5, 4, false, true)), ""}, {"SWPALB X7,X7,[x+1+X7]", at(0, 1, 7, 1, rmw(swap, 7, 7, true, true)), ""},
		{"SWPH X1,X0,[x+6]", at(0, 6, -1, 2, rmw(swap, 1, 0, false, false)), ""}, {"SWPAH X3,X2,[y]", at(1, 0, -1, 2, rmw(swap, 3, 2, true, false)), ""}, {"SWPLH X5,X4,[z+X6]", at(2, 0, 6, 2, rmw(swap, 5, 4, false, true)), ""}, {"SWPALH X7,X7,[x+2+X7]", at(0, 2, 7, 2, rmw(swap, 7, 7, true, true)), ""},
		{"SWPW X1,X0,[x+4]", at(0, 4, -1, 4, rmw(swap, 1, 0, false, false)), ""}, {"SWPAW X3,X2,[y]", at(1, 0, -1, 4, rmw(swap, 3, 2, true, false)), ""}, {"SWPLW X5,X4,[z+X6]", at(2, 0, 6, 4, rmw(swap, 5, 4, false, true)), ""}, {"SWPALW X7,X7,[x+4+X7]", at(0, 4, 7, 4, rmw(swap, 7, 7, true, true)), ""},
		{"SWP X1,X0,[x]", at(0, 0, -1, 8, rmw(swap, 1, 0, false, false)), ""}, {"SWPA X3,X2,[y]", at(1, 0, -1, 8, rmw(swap, 3, 2, true, false)), ""}, {"SWPL X5,X4,[z+X6]", at(2, 0, 6, 8, rmw(swap, 5, 4, false, true)), ""}, {"SWPAL X7,X7,[x+X7]", at(0, 0, 7, 8, rmw(swap, 7, 7, true, true)), ""},

		{"LDADDB X0,X1,[x+4]", at(0, 4, -1, 1, rmw(add, 0, 1, false, false)), ""}, {"LDADDAB X2,X3,[y]", at(1, 0, -1, 1, rmw(add, 2, 3, true, false)), ""}, {"LDADDLB X4,X5,[z+X6]", at(2, 0, 6, 1, rmw(add, 4, 5, false, true)), ""}, {"LDADDALB X0,X0,[z+3+X0]", at(2, 3, 0, 1, rmw(add, 0, 0, true, true)), ""},
		{"LDADDH X0,X1,[x+4]", at(0, 4, -1, 2, rmw(add, 0, 1, false, false)), ""}, {"LDADDAH X2,X3,[y]", at(1, 0, -1, 2, rmw(add, 2, 3, true, false)), ""}, {"LDADDLH X4,X5,[z+X6]", at(2, 0, 6, 2, rmw(add, 4, 5, false, true)), ""}, {"LDADDALH X0,X0,[z+6+X0]", at(2, 6, 0, 2, rmw(add, 0, 0, true, true)), ""},
		{"LDADDW X0,X1,[x+4]", at(0, 4, -1, 4, rmw(add, 0, 1, false, false)), ""}, {"LDADDAW X2,X3,[y]", at(1, 0, -1, 4, rmw(add, 2, 3, true, false)), ""}, {"LDADDLW X4,X5,[z+X6]", at(2, 0, 6, 4, rmw(add, 4, 5, false, true)), ""}, {"LDADDALW X0,X0,[z+4+X0]", at(2, 4, 0, 4, rmw(add, 0, 0, true, true)), ""},
		{"LDADD X0,X1,[x]", at(0, 0, -1, 8, rmw(add, 0, 1, false, false)), ""}, {"LDADDA X2,X3,[y]", at(1, 0, -1, 8, rmw(add, 2, 3, true, false)), ""}, {"LDADDL X4,X5,[z+X6]", at(2, 0, 6, 8, rmw(add, 4, 5, false, true)), ""}, {"LDADDAL X0,X0,[z+X0]", at(2, 0, 0, 8, rmw(add, 0, 0, true, true)), ""},

		{"DMB SY", fence(3, 3), ""}, {"DMB LD", fence(1, 3), ""}, {"DMB ST", fence(2, 2), ""}, {"ISB", bare(api.OpIsb), ""},

		{"CBZ X2,L2", branch(2, true), "L2"}, {"CBZ X7,X0", branch(7, true), "X0"}, {"CBZ X0,x", branch(0, true), "x"},
		{"CBNZ X0,ISB", branch(0, false), "ISB"}, {"CBNZ X3,_.9", branch(3, false), "_.9"}, {"CBNZ X6,SY", branch(6, false), "SY"},
	}
}

// 7.1, 5.3: what each text means, and how it is printed.
func TestSamples(t *testing.T) {
	for _, x := range samples() {
		if got, want := parse(words(t, x.text)...), (told{i: x.i, label: x.label}); got != want {
			t.Errorf("Parse of %q: %+v, want %+v", x.text, got, want)
		}
		if text, e := arm.Print(x.i, x.label); text != x.text || e != api.OK {
			t.Errorf("Print of %q: %q, %d", x.text, text, e)
		}
	}
}

// 5.1, 5.2: what may be written otherwise than it is printed.
func TestOtherWritings(t *testing.T) {
	for text, want := range map[string]api.Ins{
		" MOV\tX0 , # 5\n":               konst(0, 5),
		"MOV X0,# - (* below *) 5":       konst(0, -5),
		"MOV X0,#-0":                     konst(0, 0),
		"MOV X0,#007":                    konst(0, 7),
		"MOV X0,#0xFF":                   konst(0, 255),
		"MOV X0,#-0xff":                  konst(0, -255),
		"MOV X0,#9223372036854775808":    konst(0, math.MinInt),
		"MOV X0,#0x8000000000000000":     konst(0, math.MinInt),
		"MOV X0,#-0x8000000000000000":    konst(0, math.MinInt),
		"SUB X0,X1,#-\n0x10":             alu(api.FnSub, 0, 1, -1, -16),
		"(* an access *)STR X1 , [x+0]":  at(0, 0, -1, 8, store(1, 0)),
		"LDRB X0,[y+00+X0]":              at(1, 0, 0, 1, load(0)),
		"LDARH X0,[y\n+\n0x6\n]":         at(1, 6, -1, 2, acquire(0)),
		"LDAPRW X0,[z+004]":              at(2, 4, -1, 4, weak(0)),
		"LDADDAB X7,X6,[ x + 3+X7]":      at(0, 3, 7, 1, rmw(api.FnAdd, 7, 6, true, false)),
		"DMB\t(* loads *) LD\n":          fence(1, 3),
		" ISB (* nothing behind it *)\t": bare(api.OpIsb),
	} {
		if got := parse(words(t, text)...); got != (told{i: want}) {
			t.Errorf("Parse of %q: %+v, want %+v", text, got, want)
		}
	}
	for text, want := range map[string]told{
		" CBZ  X0 (* to *) , L2":  {i: branch(0, true), label: "L2"},
		"CBNZ X7,\n\tCBNZ (* *) ": {i: branch(7, false), label: "CBNZ"},
	} {
		if got := parse(words(t, text)...); got != want {
			t.Errorf("Parse of %q: %+v, want %+v", text, got, want)
		}
	}
}

// refusal is a text that is refused, by what, and where.
type refusal struct {
	text string
	e    api.Errno
	at   int
}

func refused(t *testing.T, all ...refusal) {
	t.Helper()
	for _, x := range all {
		if got := parse(words(t, x.text)...); got != (told{e: x.e, at: x.at}) {
			t.Errorf("Parse of %q: %+v, want %d at %d", x.text, got, x.e, x.at)
		}
	}
}

// 5.2: the instruction's name.
func TestNamesRefused(t *testing.T) {
	refused(t, []refusal{
		{"", api.ErrEnd, 0}, {" \n\t", api.ErrEnd, 0}, {"(* ISB *)", api.ErrEnd, 0},
		{"5", api.ErrForm, 0}, {" [", api.ErrForm, 1}, {"- 5", api.ErrForm, 0}, {"#", api.ErrForm, 0}, {",", api.ErrForm, 0}, {"# 5", api.ErrForm, 0},
		{"X0", api.ErrWord, 0}, {"x", api.ErrWord, 0}, {"SY", api.ErrWord, 0}, {"_", api.ErrWord, 0}, {"B L", api.ErrWord, 0}, {"A", api.ErrWord, 0}, {"AL", api.ErrWord, 0},
		{"MOVE X0,X1", api.ErrWord, 0}, {"MOVB X0,[x]", api.ErrWord, 0}, {"MOVW X0,#1", api.ErrWord, 0}, {"mov X0,X1", api.ErrWord, 0}, {"MO X0,X1", api.ErrWord, 0}, {"MOV. X0,X1", api.ErrWord, 0},
		{"ADDB X0,X1,X2", api.ErrWord, 0}, {"ADDS X0,X1,X2", api.ErrWord, 0}, {"ADDI X0,X1,#2", api.ErrWord, 0}, {"ADDA X0,X1,X2", api.ErrWord, 0}, {"XOR X0,X1,X2", api.ErrWord, 0}, {"OR X0,X1,X2", api.ErrWord, 0}, {"EORR X0,X1,X2", api.ErrWord, 0}, {"and X0,X1,X2", api.ErrWord, 0},
		{"  LDRS X0,[x]", api.ErrWord, 2}, {"LD X0,[x]", api.ErrWord, 0}, {"LDRQ X0,[x]", api.ErrWord, 0}, {"LDRX X0,[x]", api.ErrWord, 0}, {"LDRBB X0,[x]", api.ErrWord, 0}, {"LDRWH X0,[x]", api.ErrWord, 0}, {"LDRSB X0,[x]", api.ErrWord, 0}, {"LDRb X0,[x]", api.ErrWord, 0}, {"ldr X0,[x]", api.ErrWord, 0}, {"LDR. X0,[x]", api.ErrWord, 0}, {"LDR.W X0,[x]", api.ErrWord, 0}, {"LDR_ X0,[x]", api.ErrWord, 0}, {"LDR8 X0,[x]", api.ErrWord, 0},
		{"LDA X0,[x]", api.ErrWord, 0}, {"LDARA X0,[x]", api.ErrWord, 0}, {"LDARQ X0,[x]", api.ErrWord, 0}, {"LDRA X0,[x]", api.ErrWord, 0}, {"LDBR X0,[x]", api.ErrWord, 0}, {"LDBAR X0,[x]", api.ErrWord, 0}, {"LDAP X0,[x]", api.ErrWord, 0}, {"LDPR X0,[x]", api.ErrWord, 0}, {"LDAPRA X0,[x]", api.ErrWord, 0}, {"LDAPURB X0,[x]", api.ErrWord, 0}, {"LDLAR X0,[x]", api.ErrWord, 0}, {"LDXR X0,[x]", api.ErrWord, 0}, {"LDAXR X0,[x]", api.ErrWord, 0},
		{"ST X0,[x]", api.ErrWord, 0}, {"STL X0,[x]", api.ErrWord, 0}, {"STRL X0,[x]", api.ErrWord, 0}, {"STLRA X0,[x]", api.ErrWord, 0}, {"STLRL X0,[x]", api.ErrWord, 0}, {"STAR X0,[x]", api.ErrWord, 0}, {"STLRQ X0,[x]", api.ErrWord, 0}, {"STLPR X0,[x]", api.ErrWord, 0}, {"STRBH X0,[x]", api.ErrWord, 0}, {"str X0,[x]", api.ErrWord, 0},
		{"SW X0,X1,[x]", api.ErrWord, 0}, {"SWPX X0,X1,[x]", api.ErrWord, 0}, {"SWPLA X0,X1,[x]", api.ErrWord, 0}, {"SWPAA X0,X1,[x]", api.ErrWord, 0}, {"SWPLL X0,X1,[x]", api.ErrWord, 0}, {"SWPALA X0,X1,[x]", api.ErrWord, 0}, {"SWPALL X0,X1,[x]", api.ErrWord, 0}, {"SWPBA X0,X1,[x]", api.ErrWord, 0}, {"SWPHL X0,X1,[x]", api.ErrWord, 0}, {"SWPWAL X0,X1,[x]", api.ErrWord, 0}, {"SWPABL X0,X1,[x]", api.ErrWord, 0}, {"SWPALBB X0,X1,[x]", api.ErrWord, 0}, {"SWPALQ X0,X1,[x]", api.ErrWord, 0}, {"SWPAl X0,X1,[x]", api.ErrWord, 0}, {"SWP.A X0,X1,[x]", api.ErrWord, 0}, {"SWAP X0,X1,[x]", api.ErrWord, 0},
		{"LDAD X0,X1,[x]", api.ErrWord, 0}, {"LDADDLA X0,X1,[x]", api.ErrWord, 0}, {"LDADDAA X0,X1,[x]", api.ErrWord, 0}, {"LDADDLL X0,X1,[x]", api.ErrWord, 0}, {"LDADDBA X0,X1,[x]", api.ErrWord, 0}, {"LDADDWAL X0,X1,[x]", api.ErrWord, 0}, {"LDADDX X0,X1,[x]", api.ErrWord, 0}, {"LDADDALD X0,X1,[x]", api.ErrWord, 0}, {"LDEOR X0,X1,[x]", api.ErrWord, 0}, {"STADD X0,[x]", api.ErrWord, 0}, {"CAS X0,X1,[x]", api.ErrWord, 0},
		{"DMBSY", api.ErrWord, 0}, {"DMB.SY", api.ErrWord, 0}, {"dmb SY", api.ErrWord, 0}, {"DSB SY", api.ErrWord, 0}, {"DM SY", api.ErrWord, 0}, {"isb", api.ErrWord, 0}, {"ISBS", api.ErrWord, 0}, {"IS", api.ErrWord, 0}, {"MFENCE", api.ErrWord, 0}, {"fence rw,rw", api.ErrWord, 0},
		{"CB X0,L", api.ErrWord, 0}, {"CBZZ X0,L", api.ErrWord, 0}, {"CBNZB X0,L", api.ErrWord, 0}, {"cbz X0,L", api.ErrWord, 0}, {"CBN X0,L", api.ErrWord, 0}, {"TBZ X0,L", api.ErrWord, 0}, {"CBZ. X0,L", api.ErrWord, 0}, {"JZ X0,L", api.ErrWord, 0},
	}...)
}

// 5.2: where the words end too early, and where they do not end.
func TestEndsRefused(t *testing.T) {
	refused(t, []refusal{
		// Cut off.
		{"MOV", api.ErrEnd, 3}, {"MOV ", api.ErrEnd, 3}, {"MOV X0", api.ErrEnd, 6}, {"MOV X0,", api.ErrEnd, 7}, {"MOV X0,#", api.ErrEnd, 8}, {"MOV X0,#-", api.ErrEnd, 9}, {"MOV X0,#- (* 5 *)", api.ErrEnd, 9}, {"MOV X0, (* X1 *)\n", api.ErrEnd, 7},
		{"ADD", api.ErrEnd, 3}, {"ADD X0", api.ErrEnd, 6}, {"ADD X0,", api.ErrEnd, 7}, {"ADD X0,X1", api.ErrEnd, 9}, {"ADD X0,X1,", api.ErrEnd, 10}, {"ADD X0,X1,#", api.ErrEnd, 11}, {"ADD X0,X1,#-", api.ErrEnd, 12},
		{"LDR", api.ErrEnd, 3}, {"LDR X0", api.ErrEnd, 6}, {"LDR X0,", api.ErrEnd, 7}, {"LDR X0,[", api.ErrEnd, 8}, {"LDR X0,[x", api.ErrEnd, 9}, {"LDR X0,[x+", api.ErrEnd, 10}, {"LDR X0,[x+0", api.ErrEnd, 11}, {"LDR X0,[x+0+", api.ErrEnd, 12}, {"LDR X0,[x+0+X1", api.ErrEnd, 14}, {"LDR X0,[x+X1", api.ErrEnd, 12},
		{"LDAR", api.ErrEnd, 4}, {"LDAPRB X0", api.ErrEnd, 9}, {"STR", api.ErrEnd, 3}, {"STRB X0", api.ErrEnd, 7}, {"STLR X0 , ", api.ErrEnd, 9}, {"STLRH X0,[x", api.ErrEnd, 11},
		{"SWPW", api.ErrEnd, 4}, {"SWPW X0", api.ErrEnd, 7}, {"SWPW X0,", api.ErrEnd, 8}, {"SWPW X0,X1", api.ErrEnd, 10}, {"SWPW X0,X1,", api.ErrEnd, 11}, {"LDADDAL X0,X1,[z", api.ErrEnd, 16},
		{"DMB", api.ErrEnd, 3}, {" DMB (* SY *)", api.ErrEnd, 4}, {"CBZ", api.ErrEnd, 3}, {"CBZ X0", api.ErrEnd, 6}, {"CBZ X0,", api.ErrEnd, 7}, {"CBNZ X0,\n", api.ErrEnd, 8},
		// A word too many.
		{"ISB SY", api.ErrMore, 4}, {"ISB ,", api.ErrMore, 4}, {"ISB ISB", api.ErrMore, 4}, {"ISB;", api.ErrMore, 3}, {"ISB 5", api.ErrMore, 4}, {"DMB SY SY", api.ErrMore, 7}, {"DMB SY,", api.ErrMore, 6}, {"DMB LD,ST", api.ErrMore, 6}, {"DMB ST;", api.ErrMore, 6}, {"DMB SY #1", api.ErrMore, 7},
		{"MOV X0,#5 5", api.ErrMore, 10}, {"MOV X0,#5-5", api.ErrMore, 9}, {"MOV X0,X1,X2", api.ErrMore, 9}, {"MOV X0,X1 X8", api.ErrMore, 10}, {"MOV X0,X1#5", api.ErrMore, 9}, {"ADD X0,X1,X2,X3", api.ErrMore, 12}, {"ADD X0,X1,X2,#3", api.ErrMore, 12}, {"ADD X0,X1,#5,", api.ErrMore, 12},
		{"LDR X0,[x],X1", api.ErrMore, 10}, {"LDR X0,[x]+4", api.ErrMore, 10}, {"LDAPR X0,[x],#4", api.ErrMore, 12}, {"STR X0,[x] 5", api.ErrMore, 11}, {"STLR X0,[x],[y]", api.ErrMore, 11}, {"LDADD X0,X1,[x] X2", api.ErrMore, 16}, {"SWP X0,X1,[x],X2", api.ErrMore, 13},
		{"CBZ X0,L M", api.ErrMore, 9}, {"CBZ X0,X1,X2", api.ErrMore, 9}, {"CBNZ X0,L:", api.ErrMore, 9}, {"CBNZ X0,L(* *)5", api.ErrMore, 14},
	}...)
}

// 5.2: registers, commas, numbers, DMB's word, labels.
func TestOperandsRefused(t *testing.T) {
	refused(t, []refusal{
		// A register.
		{"MOV X8,#5", api.ErrWord, 4}, {"MOV x0,#5", api.ErrWord, 4}, {"MOV X,#5", api.ErrWord, 4}, {"MOV X00,#5", api.ErrWord, 4}, {"MOV W0,#5", api.ErrWord, 4}, {"MOV XZR,#5", api.ErrWord, 4}, {"MOV x,#5", api.ErrWord, 4}, {"MOV SY,#5", api.ErrWord, 4}, {"MOV RAX,#5", api.ErrWord, 4}, {"MOV a0,#5", api.ErrWord, 4},
		{"MOV 5,X0", api.ErrForm, 4}, {"MOV #5,X0", api.ErrForm, 4}, {"MOV -5,X0", api.ErrForm, 4}, {"MOV [x],#5", api.ErrForm, 4}, {"MOV X0,X8", api.ErrWord, 7}, {"MOV X0,x1", api.ErrWord, 7}, {"MOV X0,x", api.ErrWord, 7}, {"MOV X0,[x]", api.ErrForm, 7},
		{"ADD W0,X1,X2", api.ErrWord, 4}, {"ADD X0,W1,X2", api.ErrWord, 7}, {"ADD X0,X1,W2", api.ErrWord, 10}, {"ADD #1,X0,X1", api.ErrForm, 4}, {"ADD X0,#1,X1", api.ErrForm, 7}, {"ADD X0,#1", api.ErrForm, 7}, {"ADD X0,5,X1", api.ErrForm, 7}, {"SUB X0,X1,[x]", api.ErrForm, 10}, {"ORR [x],X0,X1", api.ErrForm, 4},
		{"LDR x0,[x]", api.ErrWord, 4}, {"LDRW W0,[x]", api.ErrWord, 5}, {"LDR x,[x]", api.ErrWord, 4}, {"LDR 0,[x]", api.ErrForm, 4}, {"LDR #0,[x]", api.ErrForm, 4}, {"LDR [x],X0", api.ErrForm, 4}, {"STR X8,[x]", api.ErrWord, 4}, {"STR 5,[x]", api.ErrForm, 4}, {"STR #1,[x]", api.ErrForm, 4}, {"STR #-1,[x]", api.ErrForm, 4}, {"STLR #1,[x]", api.ErrForm, 5}, {"STR [x],X0", api.ErrForm, 4}, {"STR [x],#1", api.ErrForm, 4},
		{"LDADD X8,X1,[x]", api.ErrWord, 6}, {"LDADD X0,X8,[x]", api.ErrWord, 9}, {"LDADD 0,X1,[x]", api.ErrForm, 6}, {"LDADD #1,X1,[x]", api.ErrForm, 6}, {"LDADD X0,1,[x]", api.ErrForm, 9}, {"LDADD X0,#1,[x]", api.ErrForm, 9}, {"LDADD X0,[x],X1", api.ErrForm, 9}, {"LDADD X0,[x]", api.ErrForm, 9}, {"SWP [x],X0,X1", api.ErrForm, 4},
		{"CBZ L2", api.ErrWord, 4}, {"CBZ W0,L", api.ErrWord, 4}, {"CBZ 0,L", api.ErrForm, 4}, {"CBNZ #0,L", api.ErrForm, 5}, {"CBNZ [x],L", api.ErrForm, 5}, {"CBNZ x,L", api.ErrWord, 5},
		// A comma.
		{"MOV X0 X1", api.ErrForm, 7}, {"MOV X0 X8", api.ErrForm, 7}, {"MOV X0;X1", api.ErrForm, 6}, {"MOV,X0,X1", api.ErrForm, 3}, {"MOV X0,,X1", api.ErrForm, 7}, {"MOV X0 #5", api.ErrForm, 7}, {"MOV X0#5", api.ErrForm, 6}, {"MOV X0 5", api.ErrForm, 7}, {"ADD X0,X1 X2", api.ErrForm, 10}, {"ADD X0 X1,X2", api.ErrForm, 7}, {"ADD X0,X1#5", api.ErrForm, 9}, {"LDR X0[x]", api.ErrForm, 6}, {"STR X0+[x]", api.ErrForm, 6}, {"LDADD X0,X1[x]", api.ErrForm, 11}, {"CBZ X0 L", api.ErrForm, 7}, {"CBZ X0:L", api.ErrForm, 6},
		// A number.
		{"MOV X0,5", api.ErrForm, 7}, {"MOV X0,-5", api.ErrForm, 7}, {"MOV X0,-#5", api.ErrForm, 7}, {"MOV X0,$5", api.ErrForm, 7}, {"MOV X0,+5", api.ErrForm, 7}, {"MOV X0,#X1", api.ErrForm, 8}, {"MOV X0,#x", api.ErrForm, 8}, {"MOV X0,#foo", api.ErrForm, 8}, {"MOV X0,##5", api.ErrForm, 8}, {"MOV X0,#$5", api.ErrForm, 8}, {"MOV X0,#+5", api.ErrForm, 8}, {"MOV X0,#,", api.ErrForm, 8}, {"MOV X0,#[x]", api.ErrForm, 8},
		{"MOV X0,#- X1", api.ErrForm, 10}, {"MOV X0,#-foo", api.ErrForm, 9}, {"MOV X0,#--5", api.ErrForm, 9}, {"MOV X0,#-#5", api.ErrForm, 9}, {"MOV X0,#-,", api.ErrForm, 9},
		{"ADD X0,X1,5", api.ErrForm, 10}, {"ADD X0,X1,-5", api.ErrForm, 10}, {"SUB X0,X1,$5", api.ErrForm, 10}, {"EOR X0,X1,#X2", api.ErrForm, 11}, {"AND X0,X1,#- x", api.ErrForm, 13}, {"ORR X0,X1,#[x]", api.ErrForm, 11},
		// A DMB's word.
		{"DMB XX", api.ErrWord, 4}, {"DMB sy", api.ErrWord, 4}, {"DMB Ld", api.ErrWord, 4}, {"DMB S", api.ErrWord, 4}, {"DMB SYS", api.ErrWord, 4}, {"DMB ISH", api.ErrWord, 4}, {"DMB ISHLD", api.ErrWord, 4}, {"DMB LDST", api.ErrWord, 4}, {"DMB ST.", api.ErrWord, 4}, {"DMB X0", api.ErrWord, 4}, {"DMB x", api.ErrWord, 4}, {"DMB DMB", api.ErrWord, 4}, {"DMB rw,rw", api.ErrWord, 4}, {"DMB  _ SY", api.ErrWord, 5},
		{"DMB 5", api.ErrForm, 4}, {"DMB #5", api.ErrForm, 4}, {"DMB ,SY", api.ErrForm, 4}, {"DMB -", api.ErrForm, 4}, {"DMB [x]", api.ErrForm, 4}, {"DMB;", api.ErrForm, 3}, {"DMB (SY)", api.ErrForm, 4},
		// A label.
		{"CBZ X0,5", api.ErrForm, 7}, {"CBZ X0,#1", api.ErrForm, 7}, {"CBZ X0,-", api.ErrForm, 7}, {"CBNZ X0,[x]", api.ErrForm, 8}, {"CBNZ X0,:", api.ErrForm, 8}, {"CBNZ X0,,L", api.ErrForm, 8},
	}...)
}

// 5.1, 5.2: a MEM, and what uir.Right refuses of it, at the first word, behind
// all else.
func TestMemoryRefused(t *testing.T) {
	refused(t, []refusal{
		{"LDR X0,X1", api.ErrForm, 7}, {"LDR X0,x", api.ErrForm, 7}, {"LDR X0,5", api.ErrForm, 7}, {"LDR X0,#5", api.ErrForm, 7}, {"LDAR X0,-5", api.ErrForm, 8}, {"LDAPR X0,(x)", api.ErrForm, 9}, {"STR X0,X1", api.ErrForm, 7}, {"STLR X0,5", api.ErrForm, 8}, {"LDADDW X0,X1,X2", api.ErrForm, 13}, {"SWPAL X0,X1,x", api.ErrForm, 12},
		{"LDR X0,[w]", api.ErrWord, 8}, {"LDAPR X0,[w]", api.ErrWord, 10}, {"LDR X0,[X]", api.ErrWord, 8}, {"LDR X0,[xx]", api.ErrWord, 8}, {"LDR X0,[X1]", api.ErrWord, 8}, {"LDR X0,[SY]", api.ErrWord, 8}, {"LDR X0,[3]", api.ErrForm, 8}, {"LDR X0,[]", api.ErrForm, 8}, {"LDR X0,[[x]]", api.ErrForm, 8}, {"LDR X0,[+4]", api.ErrForm, 8}, {"LDR X0,[4+x]", api.ErrForm, 8}, {"LDR X0,[X1+x]", api.ErrWord, 8}, {"LDR X0,[#4]", api.ErrForm, 8},
		{"STR X0,[x,X1", api.ErrForm, 9}, {"STR X0,[x,#4]", api.ErrForm, 9}, {"STR X0,[x X1]", api.ErrForm, 10}, {"STR X0,[x 4]", api.ErrForm, 10}, {"STR X0,[x-4]", api.ErrForm, 9}, {"STR X0,[x+]", api.ErrForm, 10}, {"STR X0,[x+-4]", api.ErrForm, 10}, {"STR X0,[x++4]", api.ErrForm, 10}, {"STR X0,[x+#4]", api.ErrForm, 10}, {"STR X0,[x)", api.ErrForm, 9},
		{"STRB X0,[x+X8]", api.ErrWord, 11}, {"STRB X0,[x+y]", api.ErrWord, 11}, {"STRB X0,[x+x1]", api.ErrWord, 11}, {"STRB X0,[x+4+X8]", api.ErrWord, 13}, {"STRB X0,[x+4+4]", api.ErrForm, 13}, {"STRB X0,[x+4+#4]", api.ErrForm, 13}, {"STRB X0,[x+4+]", api.ErrForm, 13}, {"STRB X0,[x+X1+4]", api.ErrForm, 13}, {"STRB X0,[x+X1+X1]", api.ErrForm, 13}, {"STRB X0,[x+4+X1+X1]", api.ErrForm, 15}, {"STRB X0,[x+4 X1]", api.ErrForm, 13}, {"STRB X0,[x+4+X1", api.ErrEnd, 15}, {"LDADDB X0,X1,[x+X2+4]", api.ErrForm, 18},

		{"LDR X0,[x+4]", api.ErrIns, 0}, {" (* a *) LDRW X0,[x+3]", api.ErrIns, 9}, {"LDR X0,[x+8]", api.ErrIns, 0}, {"LDRH X0,[x+1]", api.ErrIns, 0}, {"LDRB X0,[x+8]", api.ErrIns, 0}, {"LDARW X0,[x+6+X1]", api.ErrIns, 0}, {"LDAPRH X0,[x+3]", api.ErrIns, 0}, {"STRH X0,[z+7]", api.ErrIns, 0}, {"STLR X0,[z+1+X1]", api.ErrIns, 0}, {"SWPAW X0,X1,[x+2]", api.ErrIns, 0}, {"LDADDLH X0,X1,[x+5+X2]", api.ErrIns, 0}, {"STRB X0,[x+9223372036854775807]", api.ErrIns, 0}, {"STRB X0,[x+9223372036854775808]", api.ErrIns, 0}, {"STRB X0,[x+0x100000000]", api.ErrIns, 0},
		{"LDR X0,[x+3] ,", api.ErrMore, 13}, {"LDR X0,[x+3", api.ErrEnd, 11}, {"LDR X0,[x+3+X8]", api.ErrWord, 12}, {"LDR X0,[x+3+5]", api.ErrForm, 12},
	}...)
}

// vocabulary has words of each kind: known ones, others, and marks.
var vocabulary = strings.Fields("MOV ADD LDR LDARB STLRW SWPAL SWPLA LDADDH DMB ISB CBZ CBNZ LDRQ ldr X0 X7 X8 x0 x z X SY ST sy L2 _ 0 1 2 4 8 0x6 9223372036854775808 [ ] , + - # $ ; : ( /\\")

// compare holds Parse against the model, over a text of these words.
func compare(t *testing.T, ways map[string][]way, sep string, row ...string) {
	t.Helper()
	ts := words(t, sep+strings.Join(row, sep))
	if got, want := parse(ts...), model(ways, ts); got != want {
		t.Errorf("Parse of %q: %+v, want %+v", strings.Join(row, sep), got, want)
	}
}

// 5.2: ErrIns of each offset that may not be, of each size.
func TestOffsets(t *testing.T) {
	ways := allWays()
	for _, row := range texts(strings.Fields("0 1 2 3 4 5 6 7 8 9 16 4294967296 9223372036854775800 9223372036854775807 9223372036854775808")...) {
		compare(t, ways, " ", row...)
	}
}

// 5.2: each text that is right, cut off behind each of its words; with each
// word in the place of each other, ahead of each other, and behind; without
// each; with two of them the other way round.
func TestTurnedTexts(t *testing.T) {
	ways := allWays()
	for _, row := range texts("2") {
		for k := range len(row) + 1 {
			compare(t, ways, " ", row[:k]...)
			for _, w := range vocabulary {
				compare(t, ways, "\n ", slices.Insert(slices.Clone(row), k, w)...)
				if k < len(row) {
					compare(t, ways, " ", slices.Replace(slices.Clone(row), k, k+1, w)...)
				}
			}
			if k < len(row) {
				compare(t, ways, " (* *) ", slices.Delete(slices.Clone(row), k, k+1)...)
				compare(t, ways, " ", row[k:]...)
			}
			if k > 0 && k < len(row) {
				turned := slices.Clone(row)
				turned[k-1], turned[k] = turned[k], turned[k-1]
				compare(t, ways, " ", turned...)
			}
		}
	}
}

// All rows of up to three words.
func TestShortTexts(t *testing.T) {
	ways := allWays()
	for _, a := range vocabulary {
		compare(t, ways, " ", a)
		for _, b := range vocabulary {
			compare(t, ways, " ", a, b)
			for _, c := range vocabulary {
				compare(t, ways, " ", a, b, c)
			}
		}
	}
}

// 5.2, 7.1: each name that is near to one of the table's is one of them, or
// ErrWord.
func TestNearNames(t *testing.T) {
	ways := allWays()
	pieces := strings.Fields("LD ST R A L P AL LA B H W D Q X S . 8 b a l MOV ADD SUB EOR AND ORR SWP LDADD LDR LDAR LDAPR STR STLR DMB ISB CBZ CBN Z")
	for _, a := range pieces {
		for _, b := range append(pieces, "") {
			for _, c := range append(pieces, "") {
				if name := a + b + c; name[0] != '.' && name[0] != '8' {
					compare(t, ways, "", name)
				}
			}
		}
	}
	for name := range ways {
		for _, end := range pieces {
			compare(t, ways, "", name+end)
		}
		compare(t, ways, "", strings.ToLower(name))
		compare(t, ways, "", name[1:])
		compare(t, ways, "", name[:len(name)-1])
	}
}

// dice draws numbers, the same ones each time.
type dice uint64

func (d *dice) below(n int) int {
	*d = *d*6364136223846793005 + 1442695040888963407
	return int(uint64(*d)>>33) % n
}

// Texts with some of their words turned at once.
func TestDrawnTexts(t *testing.T) {
	ways, rows := allWays(), texts("0", "4", "5")
	d := dice(7)
	for range 60000 {
		row := slices.Clone(rows[d.below(len(rows))])
		for range d.below(4) {
			k := d.below(len(row) + 1)
			w := vocabulary[d.below(len(vocabulary))]
			other := rows[d.below(len(rows))]
			switch d.below(3) {
			case 0:
				row = slices.Insert(row, k, w)
			case 1:
				row = append(row[:k], other[min(k, len(other)):]...)
			case 2:
				row = slices.Replace(row, min(k, len(row)), min(k+1, len(row)), w)
			}
		}
		compare(t, ways, " ", row...)
	}
}

// R3: the words that are handed in, and what lies behind them, stay.
func TestWordsStay(t *testing.T) {
	for _, text := range []string{"LDADDALB X0,X1,[x+4+X2] CBZ X0,L", "CBZ X0,L2 , MOV X0,#-5", "MOV X0,#-5 DMB SY", "DMB LD ISB MOV X8 5", "DMB XX SY"} {
		room := words(t, text)
		before := slices.Clone(room)
		for n := range len(room) + 1 {
			arm.Parse(room[:n]...)
			if !slices.Equal(room, before) {
				t.Fatalf("the words are %v, they were %v", room, before)
			}
		}
	}
}

// R1, R9: a refused call, or another, turns nothing of what the next tells.
func TestCallsStandAlone(t *testing.T) {
	want := parse(words(t, "DMB LD")...)
	for _, x := range samples() {
		parse(words(t, x.text)...)
		arm.Print(x.i, x.label)
		parse(words(t, x.text+" ,")...)
		if got := parse(words(t, "DMB LD")...); got != want {
			t.Fatalf("behind %q: %+v, want %+v", x.text, got, want)
		}
	}
}

// R6: words that scan.Tokens does not tell.
func TestOddWords(t *testing.T) {
	texts := []string{"", "MOV", "LDR", "LDADDALW", "LDR*", "SWP*", "DMB", "ISB", "CBZ", "X0", "x", "SY", "[", ",", "#", "-", "+", "]", "5", "\x00"}
	var odd []api.Token
	for _, text := range texts {
		for kind := -1; kind <= 4; kind++ {
			odd = append(odd, api.Token{Kind: kind, Text: text, N: math.MinInt, At: math.MaxInt})
		}
	}
	d := dice(8)
	for range 50000 {
		ts := make([]api.Token, d.below(9))
		for k := range ts {
			ts[k] = odd[d.below(len(odd))]
		}
		if i, label, e, _ := arm.Parse(ts...); e != api.OK && (i != api.Ins{} || label != "") {
			t.Fatalf("Parse of %v: %d, and %+v, %q", ts, e, i, label)
		}
	}
}
