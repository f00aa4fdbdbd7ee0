package x86

import (
	"math"
	"slices"
	"strings"
	"testing"

	"belated/api"
)

// with is an instruction with its fields set.
func with(op int, set func(i *api.Ins)) api.Ins {
	i := bare(op)
	set(&i)
	return i
}

func konst(dst, imm int) api.Ins {
	return with(api.OpConst, func(i *api.Ins) { i.Dst, i.Imm = dst, imm })
}

func move(dst, a int) api.Ins {
	return with(api.OpMove, func(i *api.Ins) { i.Dst, i.A = dst, a })
}

func alu(fn, dst, a, b, imm int) api.Ins {
	return with(api.OpAlu, func(i *api.Ins) { i.Fn, i.Dst, i.A, i.B, i.Imm = fn, dst, a, b, imm })
}

func at(loc, off, index, size int, i api.Ins) api.Ins {
	i.Loc, i.Off, i.Index, i.Size = loc, off, index, size
	return i
}

func load(dst int) api.Ins {
	return with(api.OpLoad, func(i *api.Ins) { i.Dst = dst })
}

func store(a, imm int) api.Ins {
	return with(api.OpStore, func(i *api.Ins) { i.A, i.Imm = a, imm })
}

func rmw(fn, dst, a int) api.Ins {
	return with(api.OpRmw, func(i *api.Ins) { i.Fn, i.Dst, i.A, i.Acq, i.Rel = fn, dst, a, true, true })
}

func fence(pred, succ int) api.Ins {
	return with(api.OpFence, func(i *api.Ins) { i.Pred, i.Succ = pred, succ })
}

func branch(a int, zero bool) api.Ins {
	return with(api.OpBranch, func(i *api.Ins) { i.A, i.Zero = a, zero })
}

// sample is a text as Print writes it, and what it means.
type sample struct {
	text  string
	i     api.Ins
	label string
}

// samples is each row of 5.4's table, in each of its forms and sizes.
func samples() []sample {
	all := []sample{
		{"MOV RAX,$0", konst(0, 0), ""}, {"MOV R9,$5", konst(7, 5), ""}, {"MOV RDI,$-1", konst(5, -1), ""},
		{"MOV RCX,$9223372036854775807", konst(2, math.MaxInt), ""}, {"MOV RCX,$-9223372036854775808", konst(2, math.MinInt), ""},
		{"MOV RAX,RBX", move(0, 1), ""}, {"MOV R9,R8", move(7, 6), ""}, {"MOV RSI,RSI", move(4, 4), ""},
		{"ADD RDX,RSI", alu(api.FnAdd, 3, 3, 4, 0), ""}, {"ADD RAX,$7", alu(api.FnAdd, 0, 0, -1, 7), ""},
		{"SUB RDI,RAX", alu(api.FnSub, 5, 5, 0, 0), ""}, {"SUB RDI,$-7", alu(api.FnSub, 5, 5, -1, -7), ""},
		{"XOR RAX,RAX", alu(api.FnXor, 0, 0, 0, 0), ""}, {"XOR R9,$0", alu(api.FnXor, 7, 7, -1, 0), ""},
		{"AND RBX,R9", alu(api.FnAnd, 1, 1, 7, 0), ""}, {"AND RBX,$255", alu(api.FnAnd, 1, 1, -1, 255), ""},
		{"OR R8,RCX", alu(api.FnOr, 6, 6, 2, 0), ""}, {"OR R8,$1", alu(api.FnOr, 6, 6, -1, 1), ""},
		{"MFENCE", fence(3, 3), ""},
		{"JZ RCX,L2", branch(2, true), "L2"}, {"JZ R9,RAX", branch(7, true), "RAX"}, {"JZ RAX,x", branch(0, true), "x"},
		{"JNZ RAX,MFENCE", branch(0, false), "MFENCE"}, {"JNZ RDX,_.9", branch(3, false), "_.9"}, {"JNZ R8,z", branch(6, false), "z"},
	}
	for letter, size := range map[string]int{"B": 1, "W": 2, "L": 4, "Q": 8} {
		all = append(all,
			sample{"MOV" + letter + " RAX,[x]", at(0, 0, -1, size, load(0)), ""},
			sample{"MOV" + letter + " R9,[y+RAX]", at(1, 0, 0, size, load(7)), ""},
			sample{"MOV" + letter + " [z],RBX", at(2, 0, -1, size, store(1, 0)), ""},
			sample{"MOV" + letter + " [x+R9],RAX", at(0, 0, 7, size, store(0, 0)), ""},
			sample{"MOV" + letter + " [y],$0", at(1, 0, -1, size, store(-1, 0)), ""},
			sample{"MOV" + letter + " [y+RBX],$-12", at(1, 0, 1, size, store(-1, -12)), ""},
			sample{"XCHG" + letter + " RAX,[z]", at(2, 0, -1, size, rmw(api.FnSwap, 0, 0)), ""},
			sample{"XCHG" + letter + " R8,[x+R8]", at(0, 0, 6, size, rmw(api.FnSwap, 6, 6)), ""},
			sample{"XADD" + letter + " [y],RAX", at(1, 0, -1, size, rmw(api.FnAdd, 0, 0)), ""},
			sample{"XADD" + letter + " [z+RDX],RSI", at(2, 0, 3, size, rmw(api.FnAdd, 4, 4)), ""})
	}
	return append(all,
		sample{"MOVB RAX,[x+7]", at(0, 7, -1, 1, load(0)), ""}, sample{"MOVW RAX,[z+2+RBX]", at(2, 2, 1, 2, load(0)), ""},
		sample{"MOVL [x+4],RBX", at(0, 4, -1, 4, store(1, 0)), ""}, sample{"MOVB [z+1+RAX],$1", at(2, 1, 0, 1, store(-1, 1)), ""},
		sample{"XCHGL RCX,[y+4+RCX]", at(1, 4, 2, 4, rmw(api.FnSwap, 2, 2)), ""}, sample{"XADDW [x+6+R9],RDI", at(0, 6, 7, 2, rmw(api.FnAdd, 5, 5)), ""})
}

// 5.4, 5.3: what each text means, and how it is printed.
func TestSamples(t *testing.T) {
	for _, x := range samples() {
		if got, want := parse(words(t, x.text)...), (told{i: x.i, label: x.label}); got != want {
			t.Errorf("Parse of %q: %+v, want %+v", x.text, got, want)
		}
		if text, e := Print(x.i, x.label); text != x.text || e != api.OK {
			t.Errorf("Print of %q: %q, %d", x.text, text, e)
		}
	}
}

// 5.1, 5.2: what may be written otherwise than it is printed.
func TestOtherWritings(t *testing.T) {
	for text, want := range map[string]api.Ins{
		" MOV\tRAX , $ 5\n":                            konst(0, 5),
		"MOV RAX,$ - (* below *) 5":                    konst(0, -5),
		"MOV RAX,$-0":                                  konst(0, 0),
		"MOV RAX,$007":                                 konst(0, 7),
		"MOV RAX,$0xFF":                                konst(0, 255),
		"MOV RAX,$9223372036854775808":                 konst(0, math.MinInt),
		"MOV RAX,$0x8000000000000000":                  konst(0, math.MinInt),
		"MOV RAX,$-0x8000000000000000":                 konst(0, math.MinInt),
		"(* an access *)MOVQ[ x + 0 ],RBX":             at(0, 0, -1, 8, store(1, 0)),
		"MOVB RAX,[y+00+RAX]":                          at(1, 0, 0, 1, load(0)),
		"MOVW RAX,[y\n+\n0x6\n]":                       at(1, 6, -1, 2, load(0)),
		"MOVL [z+4],$9223372036854775808":              at(2, 4, -1, 4, store(-1, math.MinInt)),
		"XADDB [x + 3 + R9] , R9 (* nothing behind *)": at(0, 3, 7, 1, rmw(api.FnAdd, 7, 7)),
		"SUB RAX,$-9223372036854775808":                alu(api.FnSub, 0, 0, -1, math.MinInt),
	} {
		if got := parse(words(t, text)...); got != (told{i: want}) {
			t.Errorf("Parse of %q: %+v, want %+v", text, got, want)
		}
	}
	for text, want := range map[string]told{
		" JZ  RAX (* to *) , L2": {i: branch(0, true), label: "L2"},
		"JNZ R9,\n\tJNZ":         {i: branch(7, false), label: "JNZ"},
	} {
		if got := parse(words(t, text)...); got != want {
			t.Errorf("Parse of %q: %+v, want %+v", text, got, want)
		}
	}
}

// 5.2: what is refused, by what, and where; it tells nothing else.
func TestRefusals(t *testing.T) {
	for _, x := range []struct {
		text string
		e    api.Errno
		at   int
	}{
		// No words.
		{"", api.ErrEnd, 0}, {" \n\t", api.ErrEnd, 0}, {"(* MFENCE *)", api.ErrEnd, 0},
		// The instruction's name.
		{"MOVE RAX,RBX", api.ErrWord, 0}, {"  MOVS RAX,[x]", api.ErrWord, 2}, {"MOVX RAX,[x]", api.ErrWord, 0}, {"MOVQQ RAX,[x]", api.ErrWord, 0},
		{"mov RAX,RBX", api.ErrWord, 0}, {"XCHG RAX,[x]", api.ErrWord, 0}, {"XADD [x],RAX", api.ErrWord, 0}, {"ADDQ RAX,RBX", api.ErrWord, 0},
		{"mfence", api.ErrWord, 0}, {"MFENCE.", api.ErrWord, 0}, {"LFENCE", api.ErrWord, 0}, {"JMP L", api.ErrWord, 0}, {"RAX", api.ErrWord, 0}, {"x", api.ErrWord, 0},
		{"5", api.ErrForm, 0}, {" [", api.ErrForm, 1}, {"$ 5", api.ErrForm, 0}, {"-", api.ErrForm, 0},
		// Cut off.
		{"MOV", api.ErrEnd, 3}, {"MOV ", api.ErrEnd, 3}, {"MOV RAX", api.ErrEnd, 7}, {"MOV RAX,", api.ErrEnd, 8}, {"MOV RAX,$", api.ErrEnd, 9}, {"MOV RAX,$- (* 5 *)", api.ErrEnd, 10},
		{"MOVQ [", api.ErrEnd, 6}, {"MOVQ [x", api.ErrEnd, 7}, {"MOVQ [x+", api.ErrEnd, 8}, {"MOVQ [x+4", api.ErrEnd, 9}, {"MOVQ [x+4+", api.ErrEnd, 10}, {"MOVQ [x+4+RAX", api.ErrEnd, 13},
		{"MOVQ [x+RAX", api.ErrEnd, 11}, {"MOVQ [x]", api.ErrEnd, 8}, {"MOVQ [x] , ", api.ErrEnd, 10}, {"JZ", api.ErrEnd, 2}, {"JZ RAX", api.ErrEnd, 6}, {"JZ RAX,", api.ErrEnd, 7}, {"XCHGQ RAX,", api.ErrEnd, 10},
		// A register.
		{"MOV RXX,RAX", api.ErrWord, 4}, {"MOV rax,RBX", api.ErrWord, 4}, {"MOV RAX,RXX", api.ErrWord, 8}, {"MOV RAX,x", api.ErrWord, 8}, {"MOV R10,RAX", api.ErrWord, 4}, {"MOV a0,X0", api.ErrWord, 4},
		{"MOV 5,RAX", api.ErrForm, 4}, {"MOV $5,RAX", api.ErrForm, 4}, {"MOV [x],RAX", api.ErrForm, 4}, {"MOV RAX,5", api.ErrForm, 8}, {"MOV RAX,-5", api.ErrForm, 8}, {"MOV RAX,[x]", api.ErrForm, 8},
		{"ADD EAX,RBX", api.ErrWord, 4}, {"ADD RAX,EBX", api.ErrWord, 8}, {"ADD RAX,[x]", api.ErrForm, 8}, {"ADD [x],RAX", api.ErrForm, 4}, {"ADD RAX,5", api.ErrForm, 8},
		{"MOVQ RXX,[x]", api.ErrWord, 5}, {"MOVQ x,RAX", api.ErrWord, 5}, {"MOVQ 5,RAX", api.ErrForm, 5}, {"MOVQ $5,RAX", api.ErrForm, 5}, {"MOVQ [x],RXX", api.ErrWord, 9}, {"MOVQ [x],5", api.ErrForm, 9}, {"MOVQ [x],[y]", api.ErrForm, 9},
		{"XCHGQ RXX,[x]", api.ErrWord, 6}, {"XADDQ [x],RXX", api.ErrWord, 10}, {"XADDQ [x],$1", api.ErrForm, 10}, {"XCHGQ $1,[x]", api.ErrForm, 6}, {"JZ L2", api.ErrWord, 3}, {"JZ $1,L", api.ErrForm, 3}, {"JNZ 0,L", api.ErrForm, 4},
		// A comma.
		{"MOV RAX RBX", api.ErrForm, 8}, {"MOV RAX RXX", api.ErrForm, 8}, {"MOV RAX;RBX", api.ErrForm, 7}, {"MOV,RAX,RBX", api.ErrForm, 3}, {"MOV RAX,,RBX", api.ErrForm, 8}, {"MOVQ [x]RAX", api.ErrForm, 8}, {"JZ RAX L", api.ErrForm, 7}, {"MOVQ RAX+[x]", api.ErrForm, 8},
		// A number.
		{"MOV RAX,$RBX", api.ErrForm, 9}, {"MOV RAX,$RXX", api.ErrForm, 9}, {"MOV RAX,$$5", api.ErrForm, 9}, {"MOV RAX,$- RBX", api.ErrForm, 11}, {"MOV RAX,$--5", api.ErrForm, 10}, {"MOV RAX,$+5", api.ErrForm, 9}, {"MOV RAX,$-$5", api.ErrForm, 10}, {"MOV RAX,#5", api.ErrForm, 8}, {"MOVQ [x],$[y]", api.ErrForm, 10},
		// Memory.
		{"MOVQ RAX,RBX", api.ErrForm, 9}, {"MOVQ RAX,x", api.ErrForm, 9}, {"MOVQ RAX,$1", api.ErrForm, 9}, {"MOVQ RAX,5", api.ErrForm, 9}, {"XCHGQ [x],RAX", api.ErrForm, 6}, {"XCHGQ RAX,RBX", api.ErrForm, 10}, {"XADDQ RAX,[x]", api.ErrForm, 6},
		{"MOVQ [w],RAX", api.ErrWord, 6}, {"MOVQ [X],RAX", api.ErrWord, 6}, {"MOVQ [xx],RAX", api.ErrWord, 6}, {"MOVQ [RAX],RAX", api.ErrWord, 6}, {"MOVQ [3],RAX", api.ErrForm, 6}, {"MOVQ [],RAX", api.ErrForm, 6}, {"MOVQ [[x]],RAX", api.ErrForm, 6}, {"MOVQ [+4],RAX", api.ErrForm, 6},
		{"MOVQ [x,RAX", api.ErrForm, 7}, {"MOVQ [x RBX],RAX", api.ErrForm, 8}, {"MOVQ [x 4],RAX", api.ErrForm, 8}, {"MOVQ [x-4],RAX", api.ErrForm, 7}, {"MOVQ [x+],RAX", api.ErrForm, 8}, {"MOVQ [x+-4],RAX", api.ErrForm, 8}, {"MOVQ [x++4],RAX", api.ErrForm, 8}, {"MOVQ [x+$4],RAX", api.ErrForm, 8},
		{"MOVQ [x+RXX],RAX", api.ErrWord, 8}, {"MOVQ [x+y],RAX", api.ErrWord, 8}, {"MOVQ [x+4+RXX],RAX", api.ErrWord, 10}, {"MOVQ [x+4+4],RAX", api.ErrForm, 10}, {"MOVQ [x+4+],RAX", api.ErrForm, 10}, {"MOVQ [x+RBX+4],RAX", api.ErrForm, 11}, {"MOVQ [x+RBX+RBX],RAX", api.ErrForm, 11}, {"MOVQ [x+4+RBX+RBX],RAX", api.ErrForm, 13}, {"MOVQ [x+4 RBX],RAX", api.ErrForm, 10}, {"MOVQ (x),RAX", api.ErrForm, 5},
		// A label.
		{"JZ RAX,5", api.ErrForm, 7}, {"JZ RAX,$", api.ErrForm, 7}, {"JNZ RAX,[x]", api.ErrForm, 8}, {"JNZ RAX,-", api.ErrForm, 8},
		// A word too many.
		{"MFENCE ,", api.ErrMore, 7}, {"MFENCE MFENCE", api.ErrMore, 7}, {"MFENCE;", api.ErrMore, 6}, {"MOV RAX,$5 5", api.ErrMore, 11}, {"MOV RAX,RBX,RCX", api.ErrMore, 11}, {"MOV RAX,RBX RXX", api.ErrMore, 12}, {"XCHGQ RAX,[x] RAX", api.ErrMore, 14}, {"JZ RAX,L M", api.ErrMore, 9}, {"JZ RAX,L:", api.ErrMore, 8}, {"MOVQ RAX,[x]+4", api.ErrMore, 12}, {"MOV RAX,$5-5", api.ErrMore, 10}, {"XADDQ [x],RAX,$1", api.ErrMore, 13},
		// What uir.Right refuses, at the first word, behind all else.
		{"MOVL [x+3],RBX", api.ErrIns, 0}, {" (* a *) MOVL [x+3],RBX", api.ErrIns, 9}, {"MOVQ [x+4],RAX", api.ErrIns, 0}, {"MOVQ [x+8],RAX", api.ErrIns, 0}, {"MOVW [x+1],RAX", api.ErrIns, 0}, {"MOVB RAX,[x+8]", api.ErrIns, 0}, {"MOVL RAX,[x+6]", api.ErrIns, 0}, {"XCHGW RAX,[z+7]", api.ErrIns, 0}, {"XADDL [z+2+RAX],RAX", api.ErrIns, 0}, {"MOVB [x+9223372036854775807],$1", api.ErrIns, 0}, {"MOVB [x+9223372036854775808],$1", api.ErrIns, 0}, {"MOVB [x+0x100000000],$1", api.ErrIns, 0},
		{"MOVQ [x+3],$1 ,", api.ErrMore, 14}, {"MOVQ [x+3],", api.ErrEnd, 11}, {"MOVQ [x+3],RXX", api.ErrWord, 11}, {"MOVQ [x+3],5", api.ErrForm, 11},
	} {
		if got := parse(words(t, x.text)...); got != (told{e: x.e, at: x.at}) {
			t.Errorf("Parse of %q: %+v, want %d at %d", x.text, got, x.e, x.at)
		}
	}
}

// vocabulary has words of each kind: known ones, others, and marks.
var vocabulary = strings.Fields("MOV MOVQ MOVB ADD XCHGL XADDW MFENCE JZ JNZ MOVX mov RAX R9 rax x z X L2 _ 0 1 2 4 8 0x6 9223372036854775808 [ ] , + - $ # ; : = ( /\\")

// texts is each way of the table as words, with each of these offsets.
func texts(offsets ...string) [][]string {
	var all [][]string
	for _, w := range allWays() {
		for _, off := range offsets {
			fill := map[string][]string{"REG": {"RBX", "RCX"}, "INDEX": {"RSI"}, "LOC": {"y"}, "NUM": {"17"}, "OFF": {off}, "LABEL": {"RAX"}}
			all = append(all, strings.Fields(written(w, fill, " ")))
			if !slices.Contains(w.slots, "OFF") {
				break
			}
		}
	}
	return all
}

// compare holds Parse against the model, over a text of these words.
func compare(t *testing.T, ways []way, sep string, row ...string) {
	t.Helper()
	ts := words(t, sep+strings.Join(row, sep))
	if got, want := parse(ts...), model(ways, ts); got != want {
		t.Errorf("Parse of %q: %+v, want %+v", strings.Join(row, sep), got, want)
	}
}

// 5.2: ErrIns of each offset that may not be, of each size.
func TestOffsets(t *testing.T) {
	ways := allWays()
	for _, row := range texts(strings.Fields("0 1 2 3 4 5 6 7 8 9 16 4294967296 9223372036854775800 9223372036854775807 9223372036854775808")...) {
		compare(t, ways, " ", row...)
	}
}

// 5.2: each text that is right, cut off behind each of its words; with each
// word in the place of each other, ahead of each other, and behind; without
// each; with two of them the other way round.
func TestTurnedTexts(t *testing.T) {
	ways := allWays()
	for _, row := range texts("2", "3") {
		for k := range len(row) + 1 {
			compare(t, ways, " ", row[:k]...)
			for _, w := range vocabulary {
				compare(t, ways, "\n ", slices.Insert(slices.Clone(row), k, w)...)
				if k < len(row) {
					compare(t, ways, " ", slices.Replace(slices.Clone(row), k, k+1, w)...)
				}
			}
			if k < len(row) {
				compare(t, ways, " (* *) ", slices.Delete(slices.Clone(row), k, k+1)...)
				compare(t, ways, " ", row[k:]...)
			}
			if k > 0 && k < len(row) {
				turned := slices.Clone(row)
				turned[k-1], turned[k] = turned[k], turned[k-1]
				compare(t, ways, " ", turned...)
			}
		}
	}
}

// All rows of up to three words.
func TestShortTexts(t *testing.T) {
	ways := allWays()
	for _, a := range vocabulary {
		compare(t, ways, " ", a)
		for _, b := range vocabulary {
			compare(t, ways, " ", a, b)
			for _, c := range vocabulary {
				compare(t, ways, " ", a, b, c)
			}
		}
	}
}

// dice draws numbers, the same ones each time.
type dice uint64

func (d *dice) below(n int) int {
	*d = *d*6364136223846793005 + 1442695040888963407
	return int(uint64(*d)>>33) % n
}

// Texts with some of their words turned at once.
func TestDrawnTexts(t *testing.T) {
	ways, rows := allWays(), texts("0", "4", "5")
	d := dice(5)
	for range 60000 {
		row := slices.Clone(rows[d.below(len(rows))])
		for range d.below(4) {
			k := d.below(len(row) + 1)
			w := vocabulary[d.below(len(vocabulary))]
			other := rows[d.below(len(rows))]
			switch d.below(3) {
			case 0:
				row = slices.Insert(row, k, w)
			case 1:
				row = append(row[:k], other[min(k, len(other)):]...)
			case 2:
				row = slices.Replace(row, min(k, len(row)), min(k+1, len(row)), w)
			}
		}
		compare(t, ways, " ", row...)
	}
}

// R3: the words that are handed in, and what lies behind them, stay.
func TestWordsStay(t *testing.T) {
	for _, text := range []string{"MOVQ [x+4+RBX],$-1 JZ RAX,L", "JZ RAX,L2 , MOV RAX,$5", "MOV RXX 5 MFENCE"} {
		room := words(t, text)
		before := slices.Clone(room)
		for n := range len(room) + 1 {
			Parse(room[:n]...)
			if !slices.Equal(room, before) {
				t.Fatalf("the words are %v, they were %v", room, before)
			}
		}
	}
}

// R6: words that scan.Tokens does not tell.
func TestOddWords(t *testing.T) {
	texts := []string{"", "MOV", "MOVQ", "JZ", "RAX", "x", "[", ",", "$", "-", "+", "]", "5", "\x00"}
	var odd []api.Token
	for _, text := range texts {
		for kind := -1; kind <= 4; kind++ {
			odd = append(odd, api.Token{Kind: kind, Text: text, N: math.MinInt, At: math.MaxInt})
		}
	}
	d := dice(6)
	for range 50000 {
		ts := make([]api.Token, d.below(9))
		for k := range ts {
			ts[k] = odd[d.below(len(odd))]
		}
		if i, label, e, _ := Parse(ts...); e != api.OK && (i != api.Ins{} || label != "") {
			t.Fatalf("Parse of %v: %d, and %+v, %q", ts, e, i, label)
		}
	}
}
