package bits

import (
	"encoding/binary"
	"math"
	mathbits "math/bits"
	"slices"
	"testing"

	"belated/api"
)

// The tests hold the calls against plain models of their own: a value is an
// array of its eight bytes, and what may be an access is a list.

var sizes = []int{1, 2, 4, 8}

// offsets is written out, so that it hangs on no rule that the package uses.
var offsets = map[int][]int{1: {0, 1, 2, 3, 4, 5, 6, 7}, 2: {0, 2, 4, 6}, 4: {0, 4}, 8: {0}}

// odd are numbers around which sizes, offsets and shifts go wrong.
var odd = []int{math.MinInt, math.MinInt + 1, math.MinInt + 7, -1 << 32, -257, -256, -255, -65, -64, -17, -16, -9, -8, -7, -6, -5, -4, -3, -2, -1,
	0, 1, 2, 3, 4, 5, 6, 7, 8, 9, 10, 12, 15, 16, 17, 24, 32, 63, 64, 65, 128, 255, 256, 257, 1 << 32, 1 << 61, 1 << 62, math.MaxInt - 7, math.MaxInt - 1, math.MaxInt}

// values have bytes that tell each other apart, signs at several places.
var values = []int{0, 1, -1, 5, 0x80, 0xFF, 0x100, 0x8000, 0xFFFF, 0x10000, 0x80000000, 0xFFFFFFFF, 1 << 32, math.MinInt, math.MaxInt,
	0x0102030405060708, 0x7F6E5D4C3B2A1908, -0x0102030405060708, -0x7F6E5D4C3B2A1908}

func bytesOf(v int) (b [8]byte) {
	binary.LittleEndian.PutUint64(b[:], uint64(v))
	return b
}

func valueOf(b [8]byte) int {
	return int(binary.LittleEndian.Uint64(b[:]))
}

func isAccess(off, size int) bool {
	return slices.Contains(offsets[size], off)
}

// lowBytes is what the low bytes of v are as a number.
func lowBytes(v, size int) int {
	b := bytesOf(v)
	clear(b[size:])
	return valueOf(b)
}

func is(t *testing.T, what string, got, want int, args ...int) {
	t.Helper()
	if got != want {
		t.Errorf("%s%v = %d, want %d", what, args, got, want)
	}
}

// 1.1

func TestMask(t *testing.T) {
	for _, size := range odd {
		for _, off := range odd {
			want := 0
			if isAccess(off, size) {
				for i := range size {
					want += 1 << (off + i)
				}
			}
			is(t, "Mask", Mask(off, size), want, off, size)
		}
	}
}

func TestMaskOfTheTable(t *testing.T) {
	is(t, "Mask", Mask(4, 2), 48)
	is(t, "Mask", Mask(3, 2), 0)
	is(t, "Mask", Mask(0, 8), 255)
	is(t, "Mask, an offset that is too high", Mask(8, 8), 0)
	is(t, "Mask, an offset below 0", Mask(-8, 8), 0)
	is(t, "Mask, the highest byte", Mask(7, 1), 128)
}

func TestPlace(t *testing.T) {
	for _, size := range odd {
		for _, off := range odd {
			for _, index := range odd {
				is(t, "Place", Place(off, index, size), placed(off, index, size), off, index, size)
			}
		}
	}
}

// placed adds residues, so that no sum wraps.
func placed(off, index, size int) int {
	if !slices.Contains(sizes, size) {
		return -1
	}
	at := ((off%8+index%8)%8 + 8) % 8
	for at%size != 0 {
		at--
	}
	return at
}

func TestPlaceOfTheTable(t *testing.T) {
	is(t, "Place", Place(4, 3, 2), 6)
	is(t, "Place", Place(0, -1, 4), 4)
	is(t, "Place", Place(1, 1, 3), -1)
	is(t, "Place, a sum that wraps", Place(math.MaxInt, 6, 1), 5)
	is(t, "Place, a sum that wraps below", Place(math.MinInt, -1, 1), 7)
}

// 1.2

func TestGet(t *testing.T) {
	for _, v := range values {
		for _, size := range odd {
			for _, off := range odd {
				want := 0
				if isAccess(off, size) {
					var b [8]byte
					all := bytesOf(v)
					copy(b[:], all[off:off+size])
					want = valueOf(b)
				}
				is(t, "Get", Get(v, off, size), want, v, off, size)
			}
		}
	}
}

func TestPut(t *testing.T) {
	for _, v := range values {
		for _, x := range values {
			for _, size := range odd {
				for _, off := range odd {
					b, from := bytesOf(v), bytesOf(x)
					if isAccess(off, size) {
						copy(b[off:], from[:size])
					}
					is(t, "Put", Put(v, off, size, x), valueOf(b), v, off, size, x)
				}
			}
		}
	}
}

func TestGetAndPutOfTheTable(t *testing.T) {
	is(t, "Get", Get(0x1234, 1, 1), 18)
	is(t, "Get", Get(-1, 0, 4), 4294967295)
	is(t, "Get of size 8 is the value itself", Get(-7, 0, 8), -7)
	is(t, "Get is from 0 on", Get(math.MinInt, 4, 4), 1<<31)
	is(t, "Put", Put(0, 2, 2, 0x12345), 0x23450000)
	is(t, "Put where no access lies", Put(77, 3, 2, 9), 77)
}

func TestBlend(t *testing.T) {
	for _, v := range values {
		for _, w := range values {
			for mask := range 256 {
				b, from := bytesOf(v), bytesOf(w)
				for i := range b {
					if mask>>i&1 == 1 {
						b[i] = from[i]
					}
				}
				want := valueOf(b)
				is(t, "Blend", Blend(v, w, mask), want, v, w, mask)
				is(t, "Blend, bits above the low eight", Blend(v, w, mask|1<<8|1<<40), want, v, w, mask)
				is(t, "Blend, a mask below 0", Blend(v, w, mask-256), want, v, w, mask)
				is(t, "Blend, several masks", Blend(v, w, mask&0x35, 0, mask&0x1F, mask&0xE0), want, v, w, mask)
			}
		}
	}
}

func TestBlendOfTheTable(t *testing.T) {
	is(t, "Blend", Blend(0x1111, 0x2222, 1), 0x1122)
	is(t, "Blend of no masks", Blend(5, 9), 5)
	is(t, "Blend of no masks, a nil list", Blend(5, 9, []int(nil)...), 5)
	is(t, "Blend of nothing but bits above", Blend(5, -1, 256, -256, math.MinInt), 5)
	is(t, "Blend of all bytes", Blend(5, -9, 15, 240), -9)
}

// 1.3

func TestUnionAndMeet(t *testing.T) {
	for _, a := range odd {
		is(t, "Union", Union(a), a&255, a)
		is(t, "Meet", Meet(a), a&255, a)
		for _, b := range odd {
			is(t, "Union", Union(a, b), (a|b)&255, a, b)
			is(t, "Meet", Meet(a, b), a&b&255, a, b)
			for _, c := range odd {
				is(t, "Union", Union(a, b, c), (a|b|c)&255, a, b, c)
				is(t, "Meet", Meet(a, b, c), a&b&c&255, a, b, c)
			}
		}
	}
}

func TestUnionAndMeetOfNone(t *testing.T) {
	is(t, "Union", Union(), 0)
	is(t, "Meet", Meet(), 255)
	is(t, "Union of an empty list", Union([]int{}...), 0)
	is(t, "Meet of an empty list", Meet([]int{}...), 255)
}

func TestUnionAndMeetOfMany(t *testing.T) {
	masks := make([]int, 1000)
	for i := range masks {
		masks[i] = 0x5A
	}
	masks[999] = 0x33
	is(t, "Union", Union(masks...), 0x7B)
	is(t, "Meet", Meet(masks...), 0x12)
}

func TestCount(t *testing.T) {
	for mask := -1024; mask < 1024; mask++ {
		is(t, "Count", Count(mask), mathbits.OnesCount8(uint8(mask)), mask)
	}
	for _, mask := range odd {
		is(t, "Count", Count(mask), mathbits.OnesCount8(uint8(mask)), mask)
	}
}

// 1.4

func TestAlu(t *testing.T) {
	for _, x := range []struct{ fn, a, b, want int }{
		{api.FnAdd, 3, 4, 7},
		{api.FnAdd, math.MaxInt, 1, math.MinInt},
		{api.FnAdd, math.MinInt, -1, math.MaxInt},
		{api.FnAdd, math.MinInt, math.MinInt, 0},
		{api.FnSub, 1, 2, -1},
		{api.FnSub, math.MinInt, 1, math.MaxInt},
		{api.FnSub, 0, math.MinInt, math.MinInt},
		{api.FnXor, 6, 3, 5},
		{api.FnXor, -1, 1, -2},
		{api.FnAnd, 6, 3, 2},
		{api.FnAnd, -1, math.MinInt, math.MinInt},
		{api.FnOr, 6, 3, 7},
		{api.FnOr, math.MinInt, 1, math.MinInt + 1},
	} {
		is(t, "Alu", Alu(x.fn, x.a, x.b), x.want, x.fn, x.a, x.b)
	}
}

func TestAluOfOtherFunctions(t *testing.T) {
	known := []int{api.FnAdd, api.FnSub, api.FnXor, api.FnAnd, api.FnOr}
	for _, fn := range odd {
		if !slices.Contains(known, fn) {
			is(t, "Alu", Alu(fn, 6, 3), 0, fn)
		}
	}
}

func TestRmw(t *testing.T) {
	for _, size := range sizes {
		for _, old := range values {
			for _, a := range values {
				is(t, "Rmw FnSwap", Rmw(api.FnSwap, old, a, size), lowBytes(a, size), old, a, size)
				is(t, "Rmw FnAdd", Rmw(api.FnAdd, old, a, size), lowBytes(old+a, size), old, a, size)
			}
		}
	}
}

func TestRmwOfTheTable(t *testing.T) {
	is(t, "Rmw", Rmw(api.FnAdd, 255, 1, 1), 0)
	is(t, "Rmw", Rmw(api.FnSwap, 7, -1, 2), 65535)
	is(t, "Rmw, a sum that wraps", Rmw(api.FnAdd, math.MaxInt, 1, 8), math.MinInt)
}

func TestRmwOfOtherFunctionsAndSizes(t *testing.T) {
	for _, x := range odd {
		for _, size := range sizes {
			if x != api.FnSwap && x != api.FnAdd {
				is(t, "Rmw", Rmw(x, 6, 3, size), 0, x, size)
			}
		}
		if !slices.Contains(sizes, x) {
			is(t, "Rmw FnSwap", Rmw(api.FnSwap, 6, 3, x), 0, x)
			is(t, "Rmw FnAdd", Rmw(api.FnAdd, 6, 3, x), 0, x)
		}
	}
}

// 1.5

func TestGetOfPut(t *testing.T) {
	for _, v := range values {
		for _, x := range values {
			for _, size := range sizes {
				for _, off := range offsets[size] {
					put := Put(v, off, size, x)
					is(t, "Get of Put", Get(put, off, size), lowBytes(x, size), v, off, size, x)
					is(t, "Get of Put", Get(put, off, size), Get(x, 0, size), v, off, size, x)
					besideStays(t, v, put, off, size)
				}
			}
		}
	}
}

func besideStays(t *testing.T, v, put, off, size int) {
	t.Helper()
	for i := range 8 {
		if i < off || i >= off+size {
			is(t, "a byte beside Put", Get(put, i, 1), Get(v, i, 1), v, off, size, i)
		}
	}
}

func TestMasksOfOneSize(t *testing.T) {
	for _, size := range sizes {
		for _, a := range offsets[size] {
			for _, b := range offsets[size] {
				want := 0
				if a == b {
					want = Mask(a, size)
				}
				is(t, "Meet of masks", Meet(Mask(a, size), Mask(b, size)), want, a, b, size)
			}
			is(t, "Count of Mask", Count(Mask(a, size)), size, a, size)
		}
	}
}

func TestBlendByParts(t *testing.T) {
	for _, v := range values {
		for _, w := range values {
			for mask := range 256 {
				rest := 255 &^ mask
				apart := Blend(Blend(v, w, mask), w, rest)
				is(t, "Blend by two parts", Blend(v, w, mask, rest), apart, v, w, mask)
				is(t, "Blend by two parts is the other value", apart, w, v, w, mask)
			}
			one := v
			for off := range 8 {
				one = Blend(one, w, Mask(off, 1))
				is(t, "Blend by a byte", Get(one, off, 1), Get(w, off, 1), v, w, off)
			}
			is(t, "Blend byte by byte", one, w, v, w)
		}
	}
}

// Put is a Blend by the mask of its access.
func TestPutIsABlend(t *testing.T) {
	for _, v := range values {
		for _, x := range values {
			for _, size := range sizes {
				for _, off := range offsets[size] {
					is(t, "Put", Put(v, off, size, x), Blend(v, x<<(8*off), Mask(off, size)), v, off, size, x)
				}
			}
		}
	}
}

// R3: masks that are handed in, and what lies behind them, stay.
func TestMasksStay(t *testing.T) {
	room := []int{-1, 0x1FF, 6, 0, 1 << 20, 99, -99, 7}
	before := slices.Clone(room)
	Blend(1, 2, room[:5]...)
	Union(room[:5]...)
	Meet(room[:5]...)
	Blend(1, 2, room[:0]...)
	Union(room[:0]...)
	Meet(room[:0]...)
	if !slices.Equal(room, before) {
		t.Errorf("the masks are %v, they were %v", room, before)
	}
}

// R6: a call that panics ends the test.
func TestNoCallPanics(t *testing.T) {
	for _, a := range odd {
		Count(a)
		for _, b := range odd {
			Mask(a, b)
			Union(a, b)
			Meet(a, b)
			for _, c := range odd {
				Place(a, b, c)
				Get(a, b, c)
				Put(a, b, c, a)
				Blend(a, b, c, a)
				Alu(a, b, c)
				Rmw(a, b, c, b)
				Rmw(a, b, b, c)
				Rmw(api.FnAdd, a, b, c)
				Rmw(api.FnSwap, a, b, c)
			}
		}
	}
}
