// Package lang: what the languages of x86, RISC-V and Arm have in common: see DOC.md, 5.1 to 5.3. A language is told by a table: what a row of it reads, the same row writes.
package lang

import (
	"slices"
	"strings"

	"belated/api"
)

const none = -1 // where a register may stand: none

// sizeHere stands in a row's name for the letter of the Size.
const sizeHere = "*"

// Part is an operand: how it is written, and which fields it tells.
type Part int

// The parts.
const (
	Dst   Part = iota + 1 // REG
	A                     // REG
	B                     // REG
	DstA                  // REG, both Dst and A
	Imm                   // IMM
	Mem                   // MEM: Loc, Off, Index; Size, which the name tells
	Label                 // LABEL: To, where that is told
	Pred                  // P: the accesses ahead of a fence
	Succ                  // P: those behind it
	Word                  // the row's own Word, which tells no field
)

// Row is a line of a language's table. Rows of one name have as many parts
// each, and the first word of a part tells which of them go on.
type Row struct {
	Name  string  // `*` in it, if it has a Mem, stands for the letter of the Size
	Word  string  // the name that stands where its Parts have Word: rows of one Name differ by it
	Ins   api.Ins // the fields that no part tells; its registers do not count
	Parts []Part
}

// Registers is the names of a language's registers, by number.
type Registers [api.MaxRegs]string

// Language is how an architecture writes instructions.
type Language struct {
	Regs    Registers
	Letters [4]string // of the sizes 1, 2, 4, 8
	ImmMark string    // ahead of an IMM's NUM; empty, if none is
	Fences  [3]string // what a P may be: FenceR, FenceW, both
	Rows    []Row
}

// Reg is a register's number; -1, if it is none.
func (r Registers) Reg(name string) int {
	return slices.Index(r[:], name)
}

// Name is a register's name; empty, if there is none.
func (r Registers) Name(reg int) string {
	if reg < 0 || reg >= len(r) {
		return ""
	}
	return r[reg]
}

// sizeOf is the Size that a name tells (0, if it tells none); false, if it is
// not the row's name.
func (l Language) sizeOf(row Row, name string) (int, bool) {
	head, tail, sized := strings.Cut(row.Name, sizeHere)
	if !sized {
		return 0, name == row.Name
	}
	for k, letter := range l.Letters {
		if name == head+letter+tail {
			return 1 << k, true
		}
	}
	return 0, false
}

// nameOf is the row's name of an instruction of a right Size.
func (l Language) nameOf(row Row, size int) string {
	for k, letter := range l.Letters {
		if size == 1<<k {
			return strings.Replace(row.Name, sizeHere, letter, 1)
		}
	}
	return row.Name
}

// with is the row's instruction, the fields that its parts tell as i has them.
func (row Row) with(i api.Ins) api.Ins {
	j := row.Ins
	j.Dst, j.A, j.B, j.Index = none, none, none, none
	for _, part := range row.Parts {
		switch part {
		case Dst:
			j.Dst = i.Dst
		case A:
			j.A = i.A
		case B:
			j.B = i.B
		case DstA:
			j.Dst, j.A = i.Dst, i.Dst
		case Imm:
			j.Imm = i.Imm
		case Mem:
			j.Loc, j.Off, j.Index, j.Size = i.Loc, i.Off, i.Index, i.Size
		case Label:
			j.To = i.To
		case Pred:
			j.Pred = i.Pred
		case Succ:
			j.Succ = i.Succ
		}
	}
	return j
}

// reg is the register of i that a part shows; false, if it shows none.
func (part Part) reg(i api.Ins) (int, bool) {
	switch part {
	case Dst, DstA:
		return i.Dst, true
	case A:
		return i.A, true
	case B:
		return i.B, true
	}
	return none, false
}
