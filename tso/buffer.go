package tso

import (
	"strconv"

	"belated/api"
)

// write is one that waits.
type write struct {
	span  api.Span
	value int
}

// buffer is a thread's writes that are not in memory yet, the oldest first.
type buffer []write

// mark tells buffers apart: each number has a mark behind it, and there is one
// behind the last write, so that no two are written alike, whatever stands
// behind.
func (b buffer) mark() string {
	var text []byte
	for _, w := range b {
		for _, v := range []int{w.span.Loc, w.span.Mask, w.value} {
			text = strconv.AppendInt(text, int64(v), 10)
			text = append(text, ' ')
		}
	}
	return string(append(text, ';'))
}
