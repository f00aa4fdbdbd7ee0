package lang

import (
	"strconv"
	"strings"

	"belated/api"
)

// Print writes an instruction, a branch with that label.
func (l Language) Print(i api.Ins, label string) (string, api.Errno) {
	if isWrong(i) {
		return "", api.ErrIns
	}
	row, ok := l.rowOf(i)
	if !ok {
		return "", api.ErrArch
	}
	if i.Op == api.OpBranch && !IsName(label) {
		return "", api.ErrLabel
	}
	name := l.nameOf(row, i.Size)
	if len(row.Parts) == 0 {
		return name, api.OK
	}
	operands := make([]string, len(row.Parts))
	for k, part := range row.Parts {
		operands[k] = l.operand(row, part, i, label)
	}
	return name + " " + strings.Join(operands, ","), api.OK
}

// rowOf is the row that tells all of a right instruction.
func (l Language) rowOf(i api.Ins) (Row, bool) {
	for _, row := range l.Rows {
		if row.with(i) == i && row.shows(i) {
			return row, true
		}
	}
	return Row{}, false
}

// shows tells whether i has the registers that the row's parts show: where it
// has an Imm in place of one, it is another row's.
func (row Row) shows(i api.Ins) bool {
	for _, part := range row.Parts {
		if reg, ok := part.reg(i); ok && reg == none {
			return false
		}
	}
	return true
}

// operand is a row's part of a right instruction as text.
func (l Language) operand(row Row, part Part, i api.Ins, label string) string {
	if reg, ok := part.reg(i); ok {
		return l.Regs.Name(reg)
	}
	switch part {
	case Imm:
		return l.ImmMark + strconv.Itoa(i.Imm)
	case Mem:
		return l.mem(i)
	case Pred:
		return l.Fences[i.Pred-1]
	case Succ:
		return l.Fences[i.Succ-1]
	case Word:
		return row.Word
	}
	return label
}

func (l Language) mem(i api.Ins) string {
	text := "[" + LocNames()[i.Loc]
	if i.Off != 0 {
		text += "+" + strconv.Itoa(i.Off)
	}
	if i.Index != none {
		text += "+" + l.Regs.Name(i.Index)
	}
	return text + "]"
}
