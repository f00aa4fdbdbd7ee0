package lang

import (
	"slices"

	"belated/api"
	"belated/ask"
	"belated/uir"
)

const minus = "-" // ahead of a NUM below 0

// reader goes through the words of an instruction.
type reader struct {
	*ask.Reader
	lang  Language
	ins   api.Ins // what the name and the operands tell
	label string
}

// Parse reads one instruction; the label that a branch names; where it goes
// wrong.
func (l Language) Parse(ts ...api.Token) (i api.Ins, label string, e api.Errno, at int) {
	r := &reader{Reader: ask.New(ts...), lang: l}
	begin := r.At()
	i = r.instruction()
	r.End()
	if e, at = r.Fault(); e != api.OK {
		return api.Ins{}, "", e, at
	}
	if isWrong(i) {
		return api.Ins{}, "", api.ErrIns, begin
	}
	return i, r.label, api.OK, 0
}

// isWrong tells whether there may be no such instruction. Where a branch goes
// to is not asked: a language tells no more than its label.
func isWrong(i api.Ins) bool {
	return uir.Right(i, 0, 0) == api.ErrIns
}

// instruction reads the name, then the operands, by those rows of that name
// that the words have not ruled out.
func (r *reader) instruction() api.Ins {
	rows := r.named()
	for k := 0; len(rows) > 0 && k < len(rows[0].Parts); k++ {
		if k > 0 {
			r.Mark(",")
		}
		rows = r.beginning(rows, k)
		if len(rows) > 0 {
			r.part(rows[0].Parts[k])
		}
	}
	if len(rows) == 0 {
		return api.Ins{}
	}
	return rows[0].with(r.ins)
}

// named is the rows of the name that comes next.
func (r *reader) named() []Row {
	word, _ := r.Peek()
	if word.Kind != api.TokName {
		r.Refuse(api.ErrForm)
		return nil
	}
	var rows []Row
	for _, row := range r.lang.Rows {
		if size, ok := r.lang.sizeOf(row, word.Text); ok {
			r.ins.Size = size
			rows = append(rows, row)
		}
	}
	if len(rows) == 0 {
		r.Refuse(api.ErrWord)
	}
	r.Next()
	return rows
}

// beginning is those of the rows whose part k may begin with the next word.
func (r *reader) beginning(rows []Row, k int) []Row {
	word, _ := r.Peek()
	fault := misfit(rows, k, word)
	left := slices.DeleteFunc(rows, func(row Row) bool { return !r.begins(row, k, word) })
	if len(left) == 0 {
		r.Refuse(fault)
	}
	return left
}

// misfit is the fault of a word with which part k of no row may begin: where a
// row asks for its own Word, a name is one that is not known.
func misfit(rows []Row, k int, word api.Token) api.Errno {
	asked := slices.ContainsFunc(rows, func(row Row) bool { return row.Parts[k] == Word })
	if asked && word.Kind == api.TokName {
		return api.ErrWord
	}
	return api.ErrForm
}

func (r *reader) begins(row Row, k int, word api.Token) bool {
	switch row.Parts[k] {
	case Imm:
		return r.beginsImm(word)
	case Mem:
		return isMark(word, "[")
	case Word:
		return word.Kind == api.TokName && word.Text == row.Word
	}
	return word.Kind == api.TokName
}

// beginsImm tells whether an IMM may begin with a word: as a NUM may, if no
// mark is ahead of that.
func (r *reader) beginsImm(word api.Token) bool {
	if r.lang.ImmMark != "" {
		return isMark(word, r.lang.ImmMark)
	}
	return word.Kind == api.TokNumber || isMark(word, minus)
}

func isMark(word api.Token, text string) bool {
	return word.Kind == api.TokMark && word.Text == text
}

func (r *reader) part(part Part) {
	switch part {
	case Dst, DstA:
		r.ins.Dst = r.reg()
	case A:
		r.ins.A = r.reg()
	case B:
		r.ins.B = r.reg()
	case Imm:
		r.ins.Imm = r.imm()
	case Mem:
		r.mem()
	case Label:
		r.label, _ = r.Name()
	case Pred:
		r.ins.Pred = r.fenced()
	case Succ:
		r.ins.Succ = r.fenced()
	case Word:
		r.Next()
	}
}

func (r *reader) imm() int {
	if r.lang.ImmMark != "" {
		r.Mark(r.lang.ImmMark)
	}
	return r.Num()
}

// mem reads a MEM. No number may stand behind the register.
func (r *reader) mem() {
	r.Mark("[")
	r.ins.Loc = r.Known(LocNames()...)
	r.ins.Index = none
	more := r.Take("+")
	if more && r.isNumber() {
		r.ins.Off, _ = r.Number()
		more = r.Take("+")
	}
	if more {
		r.ins.Index = r.reg()
	}
	r.Mark("]")
}

func (r *reader) isNumber() bool {
	word, _ := r.Peek()
	return word.Kind == api.TokNumber
}

func (r *reader) reg() int {
	return r.Known(r.lang.Regs[:]...)
}

// fenced reads a P. FenceR is 1, FenceW 2, both are 3.
func (r *reader) fenced() int {
	return r.Known(r.lang.Fences[:]...) + 1
}
