// Package memory: one memory, as the machines that have one read and write it: see DOC.md, 15.1.
package memory

import (
	mathbits "math/bits"
	"strconv"

	"belated/api"
	"belated/bits"
	"belated/mach"
	"belated/uir"
)

// Memory is what the locations hold: an array, so that a copy goes by itself.
type Memory [api.MaxLocs]int

// At is what a location holds; 0, if there is no such location.
func (m *Memory) At(loc int) int {
	if loc < 0 || loc >= api.MaxLocs {
		return 0
	}
	return m[loc]
}

// Read is the bytes of a footprint, as a number.
func (m *Memory) Read(span api.Span) int {
	return bits.Get(m.At(span.Loc), offset(span), size(span))
}

// Write lays the low bytes of a value onto a footprint.
func (m *Memory) Write(span api.Span, v int) {
	if span.Loc < 0 || span.Loc >= api.MaxLocs {
		return
	}
	m[span.Loc] = bits.Put(m[span.Loc], offset(span), size(span), v)
}

// Touch does at once what a memory operation does at its footprint, with its
// datum; it is what was held there.
func (m *Memory) Touch(i api.Ins, span api.Span, datum int) (old int) {
	old = m.Read(span)
	if uir.Writes(i) {
		m.Write(span, written(i, old, datum))
	}
	return old
}

// Outcome is this memory with the registers of a core.
func (m *Memory) Outcome(c *mach.Core) api.Outcome {
	o := api.Outcome{Mem: *m}
	for thread := range c.Threads() {
		for reg := range o.Regs[thread] {
			o.Regs[thread][reg] = c.Reg(thread, reg)
		}
	}
	return o
}

// Mark tells memories apart. Each number has a mark behind it, so that no two
// are written alike, whatever stands behind.
func (m *Memory) Mark() string {
	var text []byte
	for _, v := range m {
		text = strconv.AppendInt(text, int64(v), 10)
		text = append(text, ' ')
	}
	return string(text)
}

// written is what an instruction writes.
func written(i api.Ins, old, datum int) int {
	if uir.Reads(i) {
		return bits.Rmw(i.Fn, old, datum, i.Size)
	}
	return datum
}

// offset is the lowest byte of a footprint: an access touches bytes in a row.
func offset(span api.Span) int {
	return mathbits.TrailingZeros(uint(span.Mask))
}

// size is how many bytes a footprint has.
func size(span api.Span) int {
	return bits.Count(span.Mask)
}
