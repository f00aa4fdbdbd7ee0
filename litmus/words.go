package litmus

import (
	"strconv"

	"belated/api"
	"belated/arm"
	"belated/riscv"
	"belated/x86"
)

// The words of a text that stand for themselves.
const (
	opening   = "{"
	closing   = "}"
	assign    = "="
	between   = "|" // two cells
	behind    = ";" // a setting, a row
	labelMark = ":"
	markNot   = "~"
	exists    = "exists"
	forall    = "forall"
)

// language is how an architecture is called, and how it writes instructions
// and registers.
type language struct {
	title string
	parse func(ts ...api.Token) (api.Ins, string, api.Errno, int)
	print func(i api.Ins, label string) (string, api.Errno)
	reg   func(reg int) string
}

// languages is those of the architectures, by number, from X86 on.
func languages() []language {
	return []language{
		{"X86", x86.Parse, x86.Print, x86.Name},
		{"RISCV", riscv.Parse, riscv.Print, riscv.Name},
		{"ARM", arm.Parse, arm.Print, arm.Name},
	}
}

// languageOf is an architecture's language; false, if it is none.
func languageOf(arch int) (language, bool) {
	if arch < api.X86 || arch > api.ARM {
		return language{}, false
	}
	return languages()[arch-api.X86], true
}

// titles is what the architectures are called, by number, from X86 on.
func titles() []string {
	var all []string
	for _, l := range languages() {
		all = append(all, l.title)
	}
	return all
}

// quantifier is how one is written; empty, if it is none.
func quantifier(quant int) string {
	switch quant {
	case api.Exists:
		return exists
	case api.NotExists:
		return markNot + " " + exists
	case api.Forall:
		return forall
	}
	return ""
}

// threadName is what the head calls a thread.
func threadName(thread int) string {
	return "P" + strconv.Itoa(thread)
}

// labelOf is the label that is written for an index.
func labelOf(k int) string {
	return "L" + strconv.Itoa(k)
}
