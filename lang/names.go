package lang

import (
	"belated/api"
	"belated/ask"
	"belated/scan"
)

// LocNames is the names of the locations, by number.
func LocNames() []string {
	return []string{"x", "y", "z"}
}

// RegNames is the names of a language's registers, by number, out of its Name.
func RegNames(name func(reg int) string) []string {
	names := make([]string, api.MaxRegs)
	for reg := range names {
		names[reg] = name(reg)
	}
	return names
}

// IsName tells whether a text is one name, and nothing about it.
func IsName(text string) bool {
	words, e, _ := scan.Tokens(text)
	return e == api.OK && len(words) == 1 && words[0].Kind == api.TokName && words[0].Text == text
}

// Holder reads what holds a value at the beginning and at the end of a test: a
// thread's register, N:REG, or a location. It is told as the node of a
// condition that asks for it, without a Value.
func Holder(r *ask.Reader, regs []string) api.Cond {
	word, _ := r.Peek()
	if word.Kind != api.TokNumber {
		return api.Cond{Kind: api.CondLoc, Loc: r.Known(LocNames()...)}
	}
	if word.N < 0 || word.N >= api.MaxThreads {
		r.Refuse(api.ErrForm)
	}
	r.Next()
	r.Mark(":")
	return api.Cond{Kind: api.CondReg, Thread: word.N, Reg: r.Known(regs...)}
}
