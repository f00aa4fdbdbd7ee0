package arm_test

import (
	"slices"
	"strings"
	"testing"

	"belated/api"
	"belated/arm"
	"belated/scan"
)

// told is all that Parse tells.
type told struct {
	i     api.Ins
	label string
	e     api.Errno
	at    int
}

func parse(ts ...api.Token) told {
	i, label, e, at := arm.Parse(ts...)
	return told{i, label, e, at}
}

func words(t *testing.T, text string) []api.Token {
	t.Helper()
	ts, e, at := scan.Tokens(text)
	if e != api.OK {
		t.Fatalf("%q is no row of words: %d at %d", text, e, at)
	}
	return ts
}

// The model: 7.1's table by itself, each line of it as all rows of slots that
// it may be written as. A row of words is held against all of them at once,
// word by word.

var (
	registerNames = strings.Fields("X0 X1 X2 X3 X4 X5 X6 X7")
	locationNames = strings.Fields("x y z")
	barrierNames  = strings.Fields("SY LD ST")
)

// barriers is the Pred and Succ of a DMB, in the order of the names.
var barriers = [][2]int{{3, 3}, {1, 3}, {2, 2}}

// sizes is the letters of the sizes.
var sizes = []struct {
	letter string
	size   int
}{{"B", 1}, {"H", 2}, {"W", 4}, {"", 8}}

// orders is what may stand behind an OpRmw's name, ahead of the letter.
var orders = []struct {
	name     string
	acq, rel bool
}{{"", false, false}, {"A", true, false}, {"L", false, true}, {"AL", true, true}}

// operands is what the words behind the name tell, in their order.
type operands struct {
	regs    []int
	barrier int
	imm     int
	loc     int
	off     int
	index   int
	label   string
}

// line is a line of the table: its name, its operands, what it comes to.
type line struct {
	name  string
	slots string
	ins   func(o operands) api.Ins
}

func bare(op int) api.Ins {
	return api.Ins{Op: op, Dst: -1, A: -1, B: -1, Index: -1}
}

func access(op, size int, o operands) api.Ins {
	i := bare(op)
	i.Loc, i.Off, i.Index, i.Size = o.loc, o.off, o.index, size
	return i
}

func aluLines(name string, fn int) []line {
	return []line{
		{name, "REG , REG , REG", func(o operands) api.Ins {
			i := bare(api.OpAlu)
			i.Fn, i.Dst, i.A, i.B = fn, o.regs[0], o.regs[1], o.regs[2]
			return i
		}},
		{name, "REG , REG , IMM", func(o operands) api.Ins {
			i := bare(api.OpAlu)
			i.Fn, i.Dst, i.A, i.Imm = fn, o.regs[0], o.regs[1], o.imm
			return i
		}},
	}
}

func rmwLines(name string, fn int) []line {
	var all []line
	for _, s := range sizes {
		for _, order := range orders {
			all = append(all, line{name + order.name + s.letter, "REG , REG , MEM", func(o operands) api.Ins {
				i := access(api.OpRmw, s.size, o)
				i.Fn, i.A, i.Dst, i.Acq, i.Rel = fn, o.regs[0], o.regs[1], order.acq, order.rel
				return i
			}})
		}
	}
	return all
}

func loadLines(name string, acq, weak bool) []line {
	var all []line
	for _, s := range sizes {
		all = append(all, line{name + s.letter, "REG , MEM", func(o operands) api.Ins {
			i := access(api.OpLoad, s.size, o)
			i.Dst, i.Acq, i.Weak = o.regs[0], acq, weak
			return i
		}})
	}
	return all
}

func storeLines(name string, rel bool) []line {
	var all []line
	for _, s := range sizes {
		all = append(all, line{name + s.letter, "REG , MEM", func(o operands) api.Ins {
			i := access(api.OpStore, s.size, o)
			i.A, i.Rel = o.regs[0], rel
			return i
		}})
	}
	return all
}

func branchLine(name string, zero bool) line {
	return line{name, "REG , LABEL", func(o operands) api.Ins {
		i := bare(api.OpBranch)
		i.A, i.Zero = o.regs[0], zero
		return i
	}}
}

// lines is 7.1's table, with the letters of the sizes written out.
func lines() []line {
	all := []line{
		{"MOV", "REG , IMM", func(o operands) api.Ins {
			i := bare(api.OpConst)
			i.Dst, i.Imm = o.regs[0], o.imm
			return i
		}},
		{"MOV", "REG , REG", func(o operands) api.Ins {
			i := bare(api.OpMove)
			i.Dst, i.A = o.regs[0], o.regs[1]
			return i
		}},
		{"DMB", "BARRIER", func(o operands) api.Ins {
			i := bare(api.OpFence)
			i.Pred, i.Succ = barriers[o.barrier][0], barriers[o.barrier][1]
			return i
		}},
		{"ISB", "", func(operands) api.Ins { return bare(api.OpIsb) }},
		branchLine("CBZ", true), branchLine("CBNZ", false),
	}
	return slices.Concat(all,
		aluLines("ADD", api.FnAdd), aluLines("SUB", api.FnSub), aluLines("EOR", api.FnXor), aluLines("AND", api.FnAnd), aluLines("ORR", api.FnOr),
		loadLines("LDR", false, false), loadLines("LDAR", true, false), loadLines("LDAPR", false, true), storeLines("STR", false), storeLines("STLR", true),
		rmwLines("SWP", api.FnSwap), rmwLines("LDADD", api.FnAdd))
}

// way is a row of slots behind a name, and the line that it is one of. Of the
// slots REG, BARRIER, LOC, NUM, OFF, INDEX and LABEL stand for words, all
// others are marks.
type way struct {
	slots []string
	line  line
}

// waysOf is all ways in which a line may be written.
func waysOf(l line) []way {
	forms := map[string][]string{
		"IMM": {"# NUM", "# - NUM"},
		"MEM": {"[ LOC ]", "[ LOC + OFF ]", "[ LOC + INDEX ]", "[ LOC + OFF + INDEX ]"},
	}
	all := []way{{line: l}}
	for _, slot := range strings.Fields(l.slots) {
		some := forms[slot]
		if some == nil {
			some = []string{slot}
		}
		var longer []way
		for _, w := range all {
			for _, form := range some {
				longer = append(longer, way{slices.Concat(w.slots, strings.Fields(form)), l})
			}
		}
		all = longer
	}
	return all
}

// allWays is the ways of all lines, by their names.
func allWays() map[string][]way {
	all := map[string][]way{}
	for _, l := range lines() {
		all[l.name] = append(all[l.name], waysOf(l)...)
	}
	return all
}

// namesOf is the names that may stand in a slot, if it asks for one out of some.
func namesOf(slot string) []string {
	switch slot {
	case "REG", "INDEX":
		return registerNames
	case "LOC":
		return locationNames
	case "BARRIER":
		return barrierNames
	}
	return nil
}

// fits tells whether a word may stand in a slot.
func fits(slot string, w api.Token) bool {
	switch slot {
	case "REG", "INDEX", "LOC", "BARRIER":
		return w.Kind == api.TokName && slices.Contains(namesOf(slot), w.Text)
	case "NUM", "OFF":
		return w.Kind == api.TokNumber
	case "LABEL":
		return w.Kind == api.TokName
	}
	return w.Kind == api.TokMark && w.Text == slot
}

// model is what Parse must tell of these words.
func model(ways map[string][]way, ts []api.Token) told {
	if len(ts) == 0 {
		return told{e: api.ErrEnd}
	}
	if ts[0].Kind != api.TokName {
		return told{e: api.ErrForm, at: ts[0].At}
	}
	left := ways[ts[0].Text]
	if left == nil {
		return told{e: api.ErrWord, at: ts[0].At}
	}
	for k, w := range ts[1:] {
		next := slices.DeleteFunc(slices.Clone(left), func(x way) bool { return k >= len(x.slots) || !fits(x.slots[k], w) })
		if len(next) == 0 {
			return told{e: misfit(left, k, w), at: w.At}
		}
		left = next
	}
	if ended := left[0]; len(ended.slots) == len(ts)-1 {
		return finished(ended, ts)
	}
	last := ts[len(ts)-1]
	return told{e: api.ErrEnd, at: last.At + len(last.Text)}
}

// misfit is the error of a word that none of the ways goes on with.
func misfit(ways []way, k int, w api.Token) api.Errno {
	named := false
	for _, x := range ways {
		if k >= len(x.slots) {
			return api.ErrMore
		}
		named = named || namesOf(x.slots[k]) != nil
	}
	if named && w.Kind == api.TokName {
		return api.ErrWord
	}
	return api.ErrForm
}

// finished is what words that fit a way come to.
func finished(w way, ts []api.Token) told {
	o := operands{index: -1}
	for k, slot := range w.slots {
		switch t := ts[k+1]; slot {
		case "REG":
			o.regs = append(o.regs, slices.Index(registerNames, t.Text))
		case "INDEX":
			o.index = slices.Index(registerNames, t.Text)
		case "BARRIER":
			o.barrier = slices.Index(barrierNames, t.Text)
		case "LOC":
			o.loc = slices.Index(locationNames, t.Text)
		case "NUM":
			o.imm = t.N
			if w.slots[k-1] == "-" {
				o.imm = -t.N
			}
		case "OFF":
			o.off = t.N
		case "LABEL":
			o.label = t.Text
		}
	}
	i := w.line.ins(o)
	if i.Size > 0 && (i.Off < 0 || i.Off > 7 || i.Off%i.Size != 0) {
		return told{e: api.ErrIns, at: ts[0].At}
	}
	return told{i: i, label: o.label}
}

// texts is each way of the table as words, with each of these offsets.
func texts(offsets ...string) [][]string {
	var all [][]string
	for _, l := range lines() {
		for _, w := range waysOf(l) {
			for _, off := range offsets {
				all = append(all, append([]string{l.name}, filled(w.slots, off)...))
				if !slices.Contains(w.slots, "OFF") {
					break
				}
			}
		}
	}
	return all
}

// filled is slots with words in them: registers differ from place to place.
func filled(slots []string, off string) []string {
	regs := []string{"X1", "X2", "X3"}
	row := slices.Clone(slots)
	for k, slot := range slots {
		switch slot {
		case "REG":
			row[k], regs = regs[0], regs[1:]
		case "BARRIER":
			row[k] = "LD"
		case "INDEX":
			row[k] = "X4"
		case "LOC":
			row[k] = "y"
		case "NUM":
			row[k] = "17"
		case "OFF":
			row[k] = off
		case "LABEL":
			row[k] = "X0"
		}
	}
	return row
}
