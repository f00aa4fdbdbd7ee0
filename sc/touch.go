package sc

import (
	mathbits "math/bits"

	"belated/api"
	"belated/bits"
	"belated/uir"
)

// touch does to memory what the instruction does at which a thread stands, and
// is what memory held there. A fence and an ISB touch nothing.
func (m *Machine) touch(thread int) (old int) {
	span, datum, ok := m.Spot(thread)
	if !ok {
		return 0
	}
	i, _ := m.Ready(thread)
	held, off := m.mem[span.Loc], offset(span)
	old = bits.Get(held, off, i.Size)
	if uir.Writes(i) {
		m.mem[span.Loc] = bits.Put(held, off, i.Size, written(i, old, datum))
	}
	return old
}

// written is what an instruction writes.
func written(i api.Ins, old, datum int) int {
	if uir.Reads(i) {
		return bits.Rmw(i.Fn, old, datum, i.Size)
	}
	return datum
}

// offset is the lowest byte of a footprint: an access touches bytes in a row.
func offset(span api.Span) int {
	return mathbits.TrailingZeros(uint(span.Mask))
}
