package cond

import (
	"slices"
	"strconv"

	"belated/api"
	"belated/lang"
)

// piece is the text of a part, and the kind of its last node.
type piece struct {
	text string
	kind int
}

// Print writes a condition, with the register names of an architecture.
func Print(arch int, cs ...api.Cond) (string, api.Errno) {
	regs := regNames(arch)
	if regs == nil {
		return "", api.ErrArch
	}
	if !Right(cs...) {
		return "", api.ErrForm
	}
	whole := fold(cs, func(c api.Cond, parts []piece) piece {
		return piece{written(regs, c, parts), c.Kind}
	})
	return whole.text, api.OK
}

// written is the text of a node, of those of its parts.
func written(regs []string, c api.Cond, parts []piece) string {
	switch c.Kind {
	case api.CondReg:
		return strconv.Itoa(c.Thread) + ":" + regs[c.Reg] + "=" + strconv.Itoa(c.Value)
	case api.CondLoc:
		return lang.LocNames()[c.Loc] + "=" + strconv.Itoa(c.Value)
	case api.CondNot:
		return markNot + parts[0].apart(api.CondAnd, api.CondOr)
	case api.CondAnd:
		return parts[0].apart(api.CondOr) + " " + markAnd + " " + parts[1].apart(api.CondAnd, api.CondOr)
	}
	return parts[0].text + " " + markOr + " " + parts[1].apart(api.CondOr)
}

// apart is a part's text, with brackets around it if it is of these kinds.
func (p piece) apart(kinds ...int) string {
	if slices.Contains(kinds, p.kind) {
		return opening + p.text + closing
	}
	return p.text
}
