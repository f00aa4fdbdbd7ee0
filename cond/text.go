package cond

import (
	"belated/api"
	"belated/arm"
	"belated/riscv"
	"belated/x86"
)

// How marks are written.
const (
	markNot = `~`
	markAnd = `/\`
	markOr  = `\/`
	opening = `(`
	closing = `)`
)

// regNames is the names of an architecture's registers, by number; nil, if it
// is none.
func regNames(arch int) []string {
	switch arch {
	case api.X86:
		return allNames(x86.Name)
	case api.RISCV:
		return allNames(riscv.Name)
	case api.ARM:
		return allNames(arm.Name)
	}
	return nil
}

func allNames(name func(reg int) string) []string {
	var names []string
	for reg := range api.MaxRegs {
		names = append(names, name(reg))
	}
	return names
}
