package memory_test

import (
	"encoding/binary"
	"math"
	"testing"

	"belated/api"
	"belated/mach"
	"belated/memory"
)

// offsets is written out, so that it hangs on no rule that the package uses.
var offsets = map[int][]int{1: {0, 1, 2, 3, 4, 5, 6, 7}, 2: {0, 2, 4, 6}, 4: {0, 4}, 8: {0}}

// values are those at which signs and bounds go wrong.
var values = []int{math.MinInt, -0x0102030405060708, -256, -1, 0, 1, 127, 128, 255, 256, 0xFFFF, 1 << 31, 0x0102030405060708, math.MaxInt}

// held is a memory of which no two bytes are alike.
var held = memory.Memory{0x0807060504030201, 0x1817161514131211, -0x0706050403020110}

func bytesOf(v int) (b [8]byte) {
	binary.LittleEndian.PutUint64(b[:], uint64(v))
	return b
}

func valueOf(b [8]byte) int { return int(binary.LittleEndian.Uint64(b[:])) }

// each goes through all footprints.
func each(f func(loc, off, size int, span api.Span)) {
	for loc := range api.MaxLocs {
		for size, offs := range offsets {
			for _, off := range offs {
				mask := 0
				for n := range size {
					mask += 1 << (off + n)
				}
				f(loc, off, size, api.Span{Loc: loc, Mask: mask})
			}
		}
	}
}

// read is the bytes of a location, as a number.
func read(v, off, size int) int {
	from := bytesOf(v)
	var b [8]byte
	copy(b[:], from[off:off+size])
	return valueOf(b)
}

// wrote is what a location holds behind a write of a value's low bytes.
func wrote(v, off, size, x int) int {
	b, from := bytesOf(v), bytesOf(x)
	copy(b[off:], from[:size])
	return valueOf(b)
}

func TestReadWrite(t *testing.T) {
	each(func(loc, off, size int, span api.Span) {
		m := held
		if got, want := m.Read(span), read(held[loc], off, size); got != want || m != held {
			t.Errorf("15.1: Read(%v) = %x, want %x", span, got, want)
		}
		for _, v := range values {
			m, want := held, held
			want[loc] = wrote(held[loc], off, size, v)
			m.Write(span, v)
			if m != want {
				t.Errorf("15.1: Write(%v, %x) makes %x, want %x", span, v, m, want)
			}
		}
	})
}

// touched is what an instruction of an operation and a function writes.
func touched(op, fn, old, datum int) int {
	if op == api.OpRmw && fn == api.FnAdd {
		return old + datum
	}
	return datum
}

func TestTouch(t *testing.T) {
	each(func(loc, off, size int, span api.Span) {
		for _, i := range []api.Ins{{Op: api.OpLoad}, {Op: api.OpStore}, {Op: api.OpRmw, Fn: api.FnSwap}, {Op: api.OpRmw, Fn: api.FnAdd}} {
			i.Loc, i.Size = loc, size
			for _, v := range values {
				m, want, old := held, held, read(held[loc], off, size)
				if i.Op != api.OpLoad {
					want[loc] = wrote(held[loc], off, size, touched(i.Op, i.Fn, old, v))
				}
				if got := m.Touch(i, span, v); got != old || m != want {
					t.Errorf("15.1: Touch(%v, %v, %x) = %x and makes %x, want %x and %x", i, span, v, got, m, old, want)
				}
			}
		}
	})
}

// What there is not holds 0, and nothing is written there.
func TestNone(t *testing.T) {
	m := held
	for _, loc := range []int{math.MinInt, -1, 3, 4, 1 << 32, math.MaxInt} {
		span := api.Span{Loc: loc, Mask: 255}
		m.Write(span, 9)
		if m.At(loc) != 0 || m.Read(span) != 0 || m.Touch(api.Ins{Op: api.OpStore, Size: 8}, span, 9) != 0 {
			t.Errorf("15.1: location %d holds %d", loc, m.At(loc))
		}
	}
	for _, mask := range []int{0, 6, 7, 256, -1 << 8, math.MinInt} {
		span := api.Span{Loc: 0, Mask: mask}
		m.Write(span, -1)
		if m.Read(span) != 0 {
			t.Errorf("15.1: what is no footprint, %d, is read as %d", mask, m.Read(span))
		}
	}
	if m != held {
		t.Errorf("15.1: what there is not turned memory to %x", m)
	}
	for loc, v := range held {
		if m.At(loc) != v {
			t.Errorf("15.1: At(%d) = %x, want %x", loc, m.At(loc), v)
		}
	}
}

func TestOutcome(t *testing.T) {
	x := api.Test{Code: make([][]api.Ins, 2), Regs: [3][8]int{{1, 7: -8}, {math.MinInt, 7: math.MaxInt}, {5}}}
	m := held
	got := m.Outcome(mach.NewCore(x))
	x.Regs[2] = [8]int{}
	if want := (api.Outcome{Regs: x.Regs, Mem: held}); got != want {
		t.Errorf("15.1: Outcome = %v, want %v", got, want)
	}
}

// One Mark is one memory, and none is the beginning of another one.
func TestMark(t *testing.T) {
	seen := map[string]memory.Memory{}
	for _, a := range values {
		for _, b := range values {
			for _, c := range values {
				m := memory.Memory{a, b, c}
				mark := m.Mark()
				for n := range mark {
					if other, is := seen[mark[:n]]; is {
						t.Fatalf("14.1: Marks %q of %v and %q of %v", mark, m, other.Mark(), other)
					}
				}
				if other, is := seen[mark]; is || mark != m.Mark() {
					t.Fatalf("14.1: one Mark %q of %v and %v", mark, m, other)
				}
				seen[mark] = m
			}
		}
	}
}
