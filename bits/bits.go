// Package bits: values, and which of their bytes an access touches: see DOC.md, chapter 1.
package bits

import "belated/api"

const (
	window = 8   // bytes of a location
	whole  = 255 // the mask of all of them
)

// Mask is the bytes that an access touches, a bit a byte; 0 if there is no such access.
func Mask(off, size int) int {
	if !fits(off, size) {
		return 0
	}
	return (1<<size - 1) << off
}

// Place is the offset at which an access of that size lies; -1 if size is none.
func Place(off, index, size int) int {
	if !isSize(size) {
		return -1
	}
	// The sum may wrap: 8 divides 2^64, so what it is modulo 8 stays.
	at := (off + index) & (window - 1)
	return at &^ (size - 1)
}

// Get is the bytes of v at the offset, as a number.
func Get(v, off, size int) int {
	if !fits(off, size) {
		return 0
	}
	// Copies of the sign that the shift brings in lie above the bytes that are kept.
	return v >> (8 * off) & low(size)
}

// Put is v with the low bytes of x laid in at the offset.
func Put(v, off, size, x int) int {
	if !fits(off, size) {
		return v
	}
	return choose(v, x<<(8*off), low(size)<<(8*off))
}

// Blend is v with the bytes of w that one of the masks has.
func Blend(v, w int, masks ...int) int {
	return choose(v, w, spread(Union(masks...)))
}

// Union is the bytes that one of the masks has.
func Union(masks ...int) int {
	all := 0
	for _, mask := range masks {
		all |= mask
	}
	return all & whole
}

// Meet is the bytes that all of the masks have.
func Meet(masks ...int) int {
	all := whole
	for _, mask := range masks {
		all &= mask
	}
	return all
}

// Count is how many bytes a mask has.
func Count(mask int) int {
	n := 0
	for i := range window {
		n += mask >> i & 1
	}
	return n
}

// Alu is what an OpAlu computes.
func Alu(fn, a, b int) int {
	switch fn {
	case api.FnAdd:
		return a + b
	case api.FnSub:
		return a - b
	case api.FnXor:
		return a ^ b
	case api.FnAnd:
		return a & b
	case api.FnOr:
		return a | b
	}
	return 0
}

// Rmw is what an OpRmw writes; Get answers 0 for a size that is none.
func Rmw(fn, old, a, size int) int {
	switch fn {
	case api.FnSwap:
		return Get(a, 0, size)
	case api.FnAdd:
		return Get(old+a, 0, size)
	}
	return 0
}

func isSize(size int) bool {
	return size == 1 || size == 2 || size == 4 || size == 8
}

// fits tells whether off is an offset for size. It bounds off from above by a
// difference: off + size could wrap.
func fits(off, size int) bool {
	return isSize(size) && off >= 0 && off <= window-size && off%size == 0
}

// low has the bits of the lowest size bytes. Of size 8 the shift leaves 0, and
// 0 - 1 has all bits.
func low(size int) int {
	return 1<<(8*size) - 1
}

// spread has all eight bits of each byte that the mask has.
func spread(mask int) int {
	wide := 0
	for i := range window {
		if mask>>i&1 == 1 {
			wide |= 255 << (8 * i)
		}
	}
	return wide
}

// choose takes the bits that pick has from w, the others from v.
func choose(v, w, pick int) int {
	return v&^pick | w&pick
}
