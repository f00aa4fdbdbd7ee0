package cond

import (
	"belated/api"
	"belated/arm"
	"belated/lang"
	"belated/riscv"
	"belated/x86"
)

// How marks are written.
const (
	markNot = `~`
	markAnd = `/\`
	markOr  = `\/`
	opening = `(`
	closing = `)`
)

// regNames is the names of an architecture's registers, by number; nil, if it
// is none.
func regNames(arch int) []string {
	switch arch {
	case api.X86:
		return lang.RegNames(x86.Name)
	case api.RISCV:
		return lang.RegNames(riscv.Name)
	case api.ARM:
		return lang.RegNames(arm.Name)
	}
	return nil
}
