package lang

import (
	"slices"

	"belated/api"
	"belated/scan"
	"belated/uir"
)

const minus = "-" // ahead of a NUM below 0

// reader goes through the words of an instruction. It keeps the first fault
// and goes on: what it finds behind that is not told.
type reader struct {
	lang  Language
	words *scan.Cursor
	ins   api.Ins // what the name and the operands tell
	label string
	e     api.Errno
	at    int
}

// Parse reads one instruction; the label that a branch names; where it goes
// wrong.
func (l Language) Parse(ts ...api.Token) (i api.Ins, label string, e api.Errno, at int) {
	r := &reader{lang: l, words: scan.New(ts...)}
	begin := r.words.At()
	i = r.instruction()
	if r.words.Left() > 0 {
		r.refuse(api.ErrMore)
	}
	if r.e == api.OK && isWrong(i) {
		r.e, r.at = api.ErrIns, begin
	}
	if r.e != api.OK {
		return api.Ins{}, "", r.e, r.at
	}
	return i, r.label, api.OK, 0
}

// isWrong tells whether there may be no such instruction. Where a branch goes
// to is not asked: a language tells no more than its label.
func isWrong(i api.Ins) bool {
	return uir.Right(i, 0, 0) == api.ErrIns
}

// refuse keeps a fault at the next word; behind the last one there is but one.
func (r *reader) refuse(e api.Errno) {
	if r.e != api.OK {
		return
	}
	if r.words.Left() == 0 {
		e = api.ErrEnd
	}
	r.e, r.at = e, r.words.At()
}

// instruction reads the name, then the operands, by those rows of that name
// that the words have not ruled out.
func (r *reader) instruction() api.Ins {
	rows := r.named()
	for k := 0; len(rows) > 0 && k < len(rows[0].Parts); k++ {
		if k > 0 {
			r.mark(",")
		}
		rows = r.beginning(rows, k)
		if len(rows) > 0 {
			r.part(rows[0].Parts[k])
		}
	}
	if len(rows) == 0 {
		return api.Ins{}
	}
	return rows[0].with(r.ins)
}

// named is the rows of the name that comes next.
func (r *reader) named() []Row {
	word, _ := r.words.Peek()
	if word.Kind != api.TokName {
		r.refuse(api.ErrForm)
		return nil
	}
	var rows []Row
	for _, row := range r.lang.Rows {
		if size, ok := r.lang.sizeOf(row, word.Text); ok {
			r.ins.Size = size
			rows = append(rows, row)
		}
	}
	if len(rows) == 0 {
		r.refuse(api.ErrWord)
	}
	r.words.Next()
	return rows
}

// beginning is those of the rows whose part k may begin with the next word.
func (r *reader) beginning(rows []Row, k int) []Row {
	word, _ := r.words.Peek()
	fault := misfit(rows, k, word)
	left := slices.DeleteFunc(rows, func(row Row) bool { return !r.begins(row, k, word) })
	if len(left) == 0 {
		r.refuse(fault)
	}
	return left
}

// misfit is the fault of a word with which part k of no row may begin: where a
// row asks for its own Word, a name is one that is not known.
func misfit(rows []Row, k int, word api.Token) api.Errno {
	asked := slices.ContainsFunc(rows, func(row Row) bool { return row.Parts[k] == Word })
	if asked && word.Kind == api.TokName {
		return api.ErrWord
	}
	return api.ErrForm
}

func (r *reader) begins(row Row, k int, word api.Token) bool {
	switch row.Parts[k] {
	case Imm:
		return r.beginsImm(word)
	case Mem:
		return isMark(word, "[")
	case Word:
		return word.Kind == api.TokName && word.Text == row.Word
	}
	return word.Kind == api.TokName
}

// beginsImm tells whether an IMM may begin with a word: as a NUM may, if no
// mark is ahead of that.
func (r *reader) beginsImm(word api.Token) bool {
	if r.lang.ImmMark != "" {
		return isMark(word, r.lang.ImmMark)
	}
	return word.Kind == api.TokNumber || isMark(word, minus)
}

func isMark(word api.Token, text string) bool {
	return word.Kind == api.TokMark && word.Text == text
}

func (r *reader) part(part Part) {
	switch part {
	case Dst, DstA:
		r.ins.Dst = r.reg()
	case A:
		r.ins.A = r.reg()
	case B:
		r.ins.B = r.reg()
	case Imm:
		r.ins.Imm = r.imm()
	case Mem:
		r.mem()
	case Label:
		r.label, _ = r.words.Name()
	case Pred:
		r.ins.Pred = r.fenced()
	case Succ:
		r.ins.Succ = r.fenced()
	case Word:
		r.words.Next()
	}
}

func (r *reader) imm() int {
	if r.lang.ImmMark != "" {
		r.mark(r.lang.ImmMark)
	}
	return r.num()
}

// mem reads a MEM. No number may stand behind the register.
func (r *reader) mem() {
	r.mark("[")
	r.ins.Loc = r.known(locNames()...)
	r.ins.Index = none
	more := r.words.Take("+")
	if more && r.isNumber() {
		r.ins.Off, _ = r.words.Number()
		more = r.words.Take("+")
	}
	if more {
		r.ins.Index = r.reg()
	}
	r.mark("]")
}

func (r *reader) isNumber() bool {
	word, _ := r.words.Peek()
	return word.Kind == api.TokNumber
}

// num reads a NUM. If it is none, the fault lies behind its `-`.
func (r *reader) num() int {
	n, ok := r.words.Number()
	if !ok {
		r.words.Take(minus)
		r.refuse(api.ErrForm)
	}
	return n
}

func (r *reader) reg() int {
	return r.known(r.lang.Regs[:]...)
}

// fenced reads a P. FenceR is 1, FenceW 2, both are 3.
func (r *reader) fenced() int {
	return r.known(r.lang.Fences[:]...) + 1
}

// mark asks for a mark.
func (r *reader) mark(text string) {
	if !r.words.Take(text) {
		r.refuse(api.ErrForm)
	}
}

// known asks for one of these names: which one it is.
func (r *reader) known(names ...string) int {
	word, _ := r.words.Peek()
	if word.Kind != api.TokName {
		r.refuse(api.ErrForm)
		return none
	}
	n := slices.Index(names, word.Text)
	if n < 0 {
		r.refuse(api.ErrWord)
		return none
	}
	r.words.Next()
	return n
}
