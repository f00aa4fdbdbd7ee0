package x86

import (
	"slices"
	"strings"
	"testing"

	"belated/api"
	"belated/scan"
)

// told is all that Parse tells.
type told struct {
	i     api.Ins
	label string
	e     api.Errno
	at    int
}

func parse(ts ...api.Token) told {
	i, label, e, at := Parse(ts...)
	return told{i, label, e, at}
}

func words(t *testing.T, text string) []api.Token {
	t.Helper()
	ts, e, at := scan.Tokens(text)
	if e != api.OK {
		t.Fatalf("%q is no row of words: %d at %d", text, e, at)
	}
	return ts
}

// The model: chapter 5's table by itself, each line of it as all rows of
// slots that it may be written as. A row of words is held against all of them
// at once, word by word.

var registerNames = []string{"RAX", "RBX", "RCX", "RDX", "RSI", "RDI", "R8", "R9"}

// operands is what the words of an instruction tell, in their order.
type operands struct {
	regs  []int
	imm   int
	loc   int
	off   int
	index int
	label string
}

// line is a line of the table: its name, its operands, what it comes to.
type line struct {
	name  string
	slots string
	size  int
	ins   func(o operands, size int) api.Ins
}

func bare(op int) api.Ins {
	return api.Ins{Op: op, Dst: -1, A: -1, B: -1, Index: -1}
}

func access(op int, o operands, size int) api.Ins {
	i := bare(op)
	i.Loc, i.Off, i.Index, i.Size = o.loc, o.off, o.index, size
	return i
}

func aluLine(name string, fn int) []line {
	one := func(o operands, _ int) api.Ins {
		i := bare(api.OpAlu)
		i.Fn, i.Dst, i.A, i.Imm = fn, o.regs[0], o.regs[0], o.imm
		if len(o.regs) > 1 {
			i.B = o.regs[1]
		}
		return i
	}
	return []line{{name, "REG , REG", 0, one}, {name, "REG , IMM", 0, one}}
}

func rmwLine(name, slots string, size, fn int) line {
	return line{name, slots, size, func(o operands, size int) api.Ins {
		i := access(api.OpRmw, o, size)
		i.Fn, i.Dst, i.A, i.Acq, i.Rel = fn, o.regs[0], o.regs[0], true, true
		return i
	}}
}

func jump(name string, zero bool) line {
	return line{name, "REG , LABEL", 0, func(o operands, _ int) api.Ins {
		i := bare(api.OpBranch)
		i.A, i.Zero = o.regs[0], zero
		return i
	}}
}

// lines is 5.4's table, with the letters of the sizes written out.
func lines() []line {
	all := []line{
		{"MOV", "REG , IMM", 0, func(o operands, _ int) api.Ins {
			i := bare(api.OpConst)
			i.Dst, i.Imm = o.regs[0], o.imm
			return i
		}},
		{"MOV", "REG , REG", 0, func(o operands, _ int) api.Ins {
			i := bare(api.OpMove)
			i.Dst, i.A = o.regs[0], o.regs[1]
			return i
		}},
		{"MFENCE", "", 0, func(operands, int) api.Ins {
			i := bare(api.OpFence)
			i.Pred, i.Succ = 3, 3
			return i
		}},
		jump("JZ", true), jump("JNZ", false),
	}
	for fn, name := range []string{1: "ADD", 2: "SUB", 3: "XOR", 4: "AND", 5: "OR"} {
		if name != "" {
			all = append(all, aluLine(name, fn)...)
		}
	}
	for letter, size := range map[string]int{"B": 1, "W": 2, "L": 4, "Q": 8} {
		store := func(o operands, size int) api.Ins {
			i := access(api.OpStore, o, size)
			i.Imm = o.imm
			if len(o.regs) > 0 {
				i.A = o.regs[0]
			}
			return i
		}
		all = append(all,
			line{"MOV" + letter, "REG , MEM", size, func(o operands, size int) api.Ins {
				i := access(api.OpLoad, o, size)
				i.Dst = o.regs[0]
				return i
			}},
			line{"MOV" + letter, "MEM , REG", size, store}, line{"MOV" + letter, "MEM , IMM", size, store},
			rmwLine("XCHG"+letter, "REG , MEM", size, api.FnSwap), rmwLine("XADD"+letter, "MEM , REG", size, api.FnAdd))
	}
	slices.SortStableFunc(all, func(a, b line) int { return strings.Compare(a.name, b.name) })
	return all
}

// spelled is all rows of slots that a row may be written as. Of the slots
// REG, LOC, NUM, OFF, INDEX and LABEL stand for words, all others are words.
func spelled(slots []string) [][]string {
	ways := map[string][]string{
		"IMM": {"$ NUM", "$ - NUM"},
		"MEM": {"[ LOC ]", "[ LOC + OFF ]", "[ LOC + INDEX ]", "[ LOC + OFF + INDEX ]"},
	}
	rows := [][]string{nil}
	for _, slot := range slots {
		some := ways[slot]
		if some == nil {
			some = []string{slot}
		}
		var longer [][]string
		for _, row := range rows {
			for _, way := range some {
				longer = append(longer, append(slices.Clone(row), strings.Fields(way)...))
			}
		}
		rows = longer
	}
	return rows
}

// way is a row of slots, and the line that it is one of.
type way struct {
	slots []string
	line  line
}

func allWays() []way {
	var all []way
	for _, l := range lines() {
		for _, slots := range spelled(append([]string{l.name}, strings.Fields(l.slots)...)) {
			all = append(all, way{slots, l})
		}
	}
	return all
}

// fits tells whether a word may stand in a slot.
func fits(slot string, first bool, w api.Token) bool {
	switch slot {
	case "REG", "INDEX":
		return w.Kind == api.TokName && slices.Contains(registerNames, w.Text)
	case "LOC":
		return w.Kind == api.TokName && strings.Contains(" x y z ", " "+w.Text+" ")
	case "NUM", "OFF":
		return w.Kind == api.TokNumber
	case "LABEL":
		return w.Kind == api.TokName
	}
	if first {
		return w.Kind == api.TokName && w.Text == slot
	}
	return w.Kind == api.TokMark && w.Text == slot
}

// asksForName tells whether a slot asks for a name out of some.
func asksForName(slot string, first bool) bool {
	return first || slot == "REG" || slot == "INDEX" || slot == "LOC"
}

// model is what Parse must tell of these words.
func model(ways []way, ts []api.Token) told {
	left := ways
	for k := 0; ; k++ {
		if len(left[0].slots) == k {
			if k < len(ts) {
				return told{e: api.ErrMore, at: ts[k].At}
			}
			return finished(left[0], ts)
		}
		if k == len(ts) {
			return told{e: api.ErrEnd, at: end(ts)}
		}
		var next []way
		asked := false
		for _, w := range left {
			if fits(w.slots[k], k == 0, ts[k]) {
				next = append(next, w)
			}
			asked = asked || asksForName(w.slots[k], k == 0)
		}
		if len(next) == 0 {
			if asked && ts[k].Kind == api.TokName {
				return told{e: api.ErrWord, at: ts[k].At}
			}
			return told{e: api.ErrForm, at: ts[k].At}
		}
		left = next
	}
}

func end(ts []api.Token) int {
	if len(ts) == 0 {
		return 0
	}
	last := ts[len(ts)-1]
	return last.At + len(last.Text)
}

// finished is what words that fit a way come to.
func finished(w way, ts []api.Token) told {
	o := operands{index: -1}
	for k, slot := range w.slots {
		switch t := ts[k]; slot {
		case "REG":
			o.regs = append(o.regs, slices.Index(registerNames, t.Text))
		case "INDEX":
			o.index = slices.Index(registerNames, t.Text)
		case "LOC":
			o.loc = int(t.Text[0] - 'x')
		case "NUM":
			o.imm = t.N
			if w.slots[k-1] == "-" {
				o.imm = -t.N
			}
		case "OFF":
			o.off = t.N
		case "LABEL":
			o.label = t.Text
		}
	}
	i := w.line.ins(o, w.line.size)
	if w.line.size > 0 && (i.Off < 0 || i.Off > 7 || i.Off%i.Size != 0) {
		return told{e: api.ErrIns, at: ts[0].At}
	}
	return told{i: i, label: o.label}
}

// written is a way as text: its slots filled from the left by these words, of
// each kind the next one, round and round.
func written(w way, fill map[string][]string, sep string) string {
	used := map[string]int{}
	var texts []string
	for _, slot := range w.slots {
		if some := fill[slot]; some != nil {
			texts = append(texts, some[used[slot]%len(some)])
			used[slot]++
			continue
		}
		texts = append(texts, slot)
	}
	return strings.Join(texts, sep)
}
