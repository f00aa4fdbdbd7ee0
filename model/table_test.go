package model_test

import (
	"fmt"
	"slices"
	"testing"

	"belated/api"
)

// shape is a test, and whether what is asked for is allowed: on x86, on RISC-V
// and Arm. Where a language has no such instruction it is left out there.
type shape struct {
	what          string
	codes         []code
	asked         string
	strong, loose bool
}

// holdsOn holds a shape against what is allowed, and tells on how many
// architectures its test is right.
func (s shape) holdsOn(t *testing.T, init ...int) int {
	t.Helper()
	n := 0
	for _, arch := range every {
		if !isRight(arch, s.codes) {
			continue
		}
		n++
		test := on(arch, s.codes...)
		copy(test.Init[:], init)
		want := s.loose
		if arch == api.X86 {
			want = s.strong
		}
		if got := comesTo(t, test, s.asked); got != want {
			t.Errorf("13.1: %s on %d: %q: %v, want %v", s.what, arch, s.asked, got, want)
		}
		if got := comesTo(t, test, s.asked, docOf(arch)); got != want {
			t.Errorf("13.1: %s on %d, by the document's text: %q: %v, want %v", s.what, arch, s.asked, got, want)
		}
	}
	return n
}

// The chapter's table.
func TestExamples(t *testing.T) {
	for _, s := range []struct {
		shape
		on int
	}{
		{shape{"store buffering", threads(code{one(x), load(0, y)}, code{one(y), load(0, x)}), "0:0=0 1:0=0", true, true}, 3},
		{shape{"the same with full fences", threads(code{one(x), full, load(0, y)}, code{one(y), full, load(0, x)}), "0:0=0 1:0=0", false, false}, 3},
		{shape{"message passing", threads(code{one(x), one(y)}, code{load(0, y), load(1, x)}), "1:0=1 1:1=0", false, true}, 3},
		{shape{"the same with Rel and Acq", threads(code{one(x), release(one(y))}, code{acq(load(0, y)), load(1, x)}), "1:0=1 1:1=0", false, false}, 1},
		{shape{"the same with swaps, Rel and Acq", threads(code{one(x), release(swap(0, 7, y))}, code{acq(swap(0, 5, y)), load(1, x)}), "1:0=1 1:1=0", false, false}, 2},
		{shape{"load buffering", threads(code{load(0, x), one(y)}, code{load(0, y), one(x)}), "0:0=1 1:0=1", false, true}, 3},
		{shape{"the same with data", threads(code{load(0, x), store(0, y)}, code{load(0, y), store(0, x)}), "0:0=1 1:0=1", false, false}, 3},
	} {
		if n := s.holdsOn(t); n != s.on {
			t.Errorf("%s is right on %d architectures, want %d", s.what, n, s.on)
		}
	}
	// With numbers, as x86 writes them.
	for _, s := range []shape{
		{"store buffering", threads(code{put(x, 1), load(0, y)}, code{put(y, 1), load(0, x)}), "0:0=0 1:0=0", true, true},
		{"with fences", threads(code{put(x, 1), full, load(0, y)}, code{put(y, 1), full, load(0, x)}), "0:0=0 1:0=0", false, false},
		{"message passing", threads(code{put(x, 1), put(y, 1)}, code{load(0, y), load(1, x)}), "1:0=1 1:1=0", false, true},
		{"load buffering", threads(code{load(0, x), put(y, 1)}, code{load(0, y), put(x, 1)}), "0:0=1 1:0=1", false, true},
	} {
		if n := s.holdsOn(t); n != 1 {
			t.Errorf("%s is right on %d architectures", s.what, n)
		}
	}
}

// The table of chapter 24, and what DOC.md says of the whole.
func TestWellKnown(t *testing.T) {
	for _, s := range []shape{
		{"SB", threads(code{one(x), load(0, y)}, code{one(y), load(0, x)}), "0:0=0 1:0=0", true, true},
		{"SBF", threads(code{one(x), full, load(0, y)}, code{one(y), full, load(0, x)}), "0:0=0 1:0=0", false, false},
		{"MP", threads(code{one(x), one(y)}, code{load(0, y), load(1, x)}), "1:0=1 1:1=0", false, true},
		{"MPF", threads(code{one(x), full, one(y)}, code{load(0, y), full, load(1, x)}), "1:0=1 1:1=0", false, false},
		{"MPD", threads(code{one(x), full, one(y)}, code{load(0, y), move(2, 0), xor(2, 2), by(2, load(1, x))}), "1:0=1 1:1=0", false, false},
		{"MPC", threads(code{one(x), full, one(y)}, code{load(0, y), ifZero(0, 3), load(1, x)}), "1:0=1 1:1=0", false, true},
		{"LB", threads(code{load(0, x), one(y)}, code{load(0, y), one(x)}), "0:0=1 1:0=1", false, true},
		{"LBC", threads(code{load(0, x), ifZero(0, 3), one(y)}, code{load(0, y), ifZero(0, 3), one(x)}), "0:0=1 1:0=1", false, false},
		{"W22", threads(code{one(x), two(y)}, code{one(y), two(x)}), "x=1 y=1", false, true},
		{"S", threads(code{two(x), one(y)}, code{load(0, y), one(x)}), "1:0=1 x=2", false, true},
		{"R", threads(code{one(x), one(y)}, code{two(y), load(0, x)}), "y=2 1:0=0", true, true},
		{"WRC", threads(code{one(x)}, code{load(0, x), full, one(y)}, code{load(0, y), full, load(1, x)}), "1:0=1 2:0=1 2:1=0", false, false},
		{"RR", threads(code{one(x)}, code{load(0, x), load(1, x)}), "1:0=1 1:1=0", false, false},
		{"WW", threads(code{one(x), two(x)}), "x=1", false, false},
		{"IRIW of three threads", threads(code{one(x), load(0, y)}, code{load(0, x), full, load(1, y)}, code{one(y), load(0, x)}), "0:0=0 1:0=1 1:1=0 2:0=0", true, true},
		{"the same with fences", threads(code{one(x), full, load(0, y)}, code{load(0, x), full, load(1, y)}, code{one(y), full, load(0, x)}), "0:0=0 1:0=1 1:1=0 2:0=0", false, false},
	} {
		if n := s.holdsOn(t); n != 3 {
			t.Errorf("%s is right on %d architectures", s.what, n)
		}
	}
}

// are holds all outcomes that are allowed against what each must have, in the
// order of 8.5.
func are(t *testing.T, what string, test api.Test, want ...string) {
	t.Helper()
	right(t, what, test)
	got := allowed(t, test)
	ok := len(got) == len(want)
	for n := range min(len(got), len(want)) {
		ok = ok && has(t, got[n], want[n])
	}
	if !ok {
		t.Errorf("13.2: %s on %d: %v, want %q", what, test.Arch, got, want)
	}
}

// All of what is allowed, of small tests.
func TestAllOutcomes(t *testing.T) {
	for _, arch := range every {
		are(t, "one thread that does nothing", on(arch, nil), "0:6=2 0:7=1 1:6=0 2:7=0 x=0 y=0 z=0")
		are(t, "three that do nothing", on(arch, nil, code{}, nil), "0:6=2 1:6=2 2:6=2 0:7=1 1:7=1 2:7=1 x=0 y=0 z=0")
		are(t, "no memory operation", on(arch, code{konst(0, 5), ifZero(0, 3), move(1, 0)}), "0:0=5 0:1=5 x=0")
		are(t, "one store", on(arch, code{one(y)}), "x=0 y=1 z=0")
		are(t, "one load", on(arch, code{load(0, z)}), "0:0=0")
		are(t, "one thread, stores and loads", on(arch, code{one(x), load(0, x), two(x), load(1, x), load(2, y)}), "0:0=1 0:1=2 0:2=0 x=2 y=0")
		are(t, "one thread, fences alone", on(arch, code{full, full, full}), "x=0")
		are(t, "a store and a load", on(arch, code{one(x)}, code{load(0, x)}), "1:0=0 x=1", "1:0=1 x=1")
		are(t, "two stores", on(arch, code{one(x)}, code{two(x)}), "x=1", "x=2")
		are(t, "two sums", on(arch, code{acq(release(add(7, 7, x)))}, code{acq(release(add(6, 6, x)))}), "0:7=0 1:6=1 x=3", "0:7=2 1:6=0 x=3")
		are(t, "two swaps", on(arch, code{locked(7, x)}, code{locked(6, x)}), "0:7=0 1:6=1 x=2", "0:7=2 1:6=0 x=1")
		are(t, "two halves", on(arch, code{part(0, 4, one(x))}, code{part(4, 4, one(x))}), "x=4294967297")
		are(t, "a byte of a word", on(arch, code{part(0, 2, one(x))}, code{part(1, 1, two(x))}), "x=1", "x=513")
		are(t, "a branch", on(arch, code{load(0, x), ifZero(0, 3), one(y)}, code{one(x)}), "0:0=0 x=1 y=0", "0:0=1 x=1 y=1")
		are(t, "branches that ask each other", on(arch, code{load(0, x), ifZero(0, 3), one(y)}, code{load(0, y), ifZero(0, 3), one(x)}), "0:0=0 1:0=0 x=0 y=0")
		are(t, "store buffering", on(arch, code{one(x), load(0, y)}, code{one(y), load(0, x)}), "0:0=0 1:0=0", "0:0=0 1:0=1", "0:0=1 1:0=0", "0:0=1 1:0=1")
	}
}

// What stands at first is read where nothing was written.
func TestInit(t *testing.T) {
	for _, arch := range every {
		test := on(arch, code{load(0, x), store(0, y)}, code{load(0, y), store(0, x)})
		test.Init = [3]int{5, 6, -7}
		are(t, "data", test, "0:0=5 1:0=5 x=5 y=5 z=-7", "0:0=5 1:0=6 x=6 y=5", "0:0=6 1:0=6 x=6 y=6")
		test = on(arch, code{part(2, 2, load(0, z))}, code{part(3, 1, one(z))})
		test.Init[z] = 0x0807060504030201
		are(t, "parts", test, fmt.Sprintf("0:0=%d z=%d", 0x0103, 0x0807060501030201), fmt.Sprintf("0:0=%d", 0x0403))
	}
}

// Accesses of different sizes that overlap.
func TestSizes(t *testing.T) {
	low, high := func(i api.Ins) api.Ins { return part(0, 4, i) }, func(i api.Ins) api.Ins { return part(4, 4, i) }
	first := func(i api.Ins) api.Ins { return part(0, 1, i) }
	for _, s := range []shape{
		{"halves, in the other order", threads(code{low(one(x)), high(one(x))}, code{high(load(0, x)), low(load(1, x))}), "1:0=1 1:1=0", false, true},
		{"halves, then the whole", threads(code{low(one(x)), high(one(x))}, code{load(0, x)}), "1:0=4294967296", false, true},
		{"a half, then the whole", threads(code{one(x)}, code{low(load(0, x)), load(1, x)}), "1:0=1 1:1=0", false, false},
		{"the whole, then a half", threads(code{one(x)}, code{load(0, x), low(load(1, x))}), "1:0=1 1:1=0", false, false},
		{"the whole, then the other half", threads(code{low(one(x)), high(one(x))}, code{high(load(0, x)), load(1, x)}), "1:0=1 1:1=0", false, false},
		{"own bytes, and others'", threads(code{first(one(x)), load(0, x), load(1, y)}, code{one(y), full, first(load(0, x))}), "0:0=1 0:1=0 1:0=0", true, true},
		{"own bytes beside others'", threads(code{first(one(x)), load(0, x)}, code{part(1, 1, one(x)), load(0, x)}), "0:0=1 1:0=256", true, true},
		{"with fences", threads(code{first(one(x)), full, load(0, x)}, code{part(1, 1, one(x)), full, load(0, x)}), "0:0=1 1:0=256", false, false},
		{"a whole store over a byte", threads(code{first(one(x)), two(x)}), "x=1", false, false},
		{"a byte over a whole store", threads(code{two(x), part(1, 1, one(x))}), "x=258", true, true},
		{"a swap of a byte within", threads(code{first(locked(7, x)), load(0, x)}), "0:7=0 0:0=1 x=1", true, true},
		{"two swaps of bytes side by side, and loads", threads(code{first(locked(7, x)), load(0, x)}, code{part(1, 1, locked(7, x)), load(0, x)}), "0:0=1 1:0=256", false, false},
	} {
		if n := s.holdsOn(t); n != 3 {
			t.Errorf("%s is right on %d architectures", s.what, n)
		}
	}
}

// Read-modify-writes: as one, and what they keep in order.
func TestReadModifyWrites(t *testing.T) {
	for _, s := range []shape{
		{"two of them read the same", threads(code{locked(7, x)}, code{locked(6, x)}), "0:7=0 1:6=0", false, false},
		{"one store between", threads(code{acq(release(add(7, 7, x)))}, code{two(x)}), "0:7=0 x=1", false, false},
		{"store buffering", threads(code{locked(7, x), load(0, y)}, code{locked(7, y), load(0, x)}), "0:0=0 1:0=0", false, false},
		{"store buffering, the second ones", threads(code{one(x), locked(5, y)}, code{one(y), locked(5, x)}), "0:5=0 1:5=0", false, false},
		{"message passing", threads(code{one(x), locked(7, y)}, code{locked(5, y), load(1, x)}), "1:5=1 1:1=0", false, false},
		{"store buffering, plain ones", threads(code{swap(1, 7, x), load(0, y)}, code{swap(1, 7, y), load(0, x)}), "0:0=0 1:0=0", false, true},
		{"message passing, plain ones", threads(code{one(x), swap(1, 7, y)}, code{swap(0, 5, y), load(1, x)}), "1:0=1 1:1=0", false, true},
		{"message passing, of them Rel", threads(code{one(x), release(swap(1, 7, y))}, code{swap(0, 5, y), load(1, x)}), "1:0=1 1:1=0", false, true},
		{"message passing, of them Acq", threads(code{one(x), swap(1, 7, y)}, code{acq(swap(0, 5, y)), load(1, x)}), "1:0=1 1:1=0", false, true},
		{"message passing, of them both", threads(code{one(x), release(swap(1, 7, y))}, code{acq(swap(0, 5, y)), load(1, x)}), "1:0=1 1:1=0", false, false},
		{"message passing, the wrong ones", threads(code{one(x), acq(swap(1, 7, y))}, code{release(swap(0, 5, y)), load(1, x)}), "1:0=1 1:1=0", false, true},
		{"what they write is not read ahead of them", threads(code{swap(1, 7, x), load(0, x), xor(2, 0), by(2, load(3, y))}, code{one(y), full, load(0, x)}), "0:0=1 0:3=0 1:0=0", false, false},
		{"what a store writes is", threads(code{one(x), load(0, x), xor(2, 0), by(2, load(3, y))}, code{one(y), full, load(0, x)}), "0:0=1 0:3=0 1:0=0", true, true},
	} {
		plain := slices.ContainsFunc(slices.Concat(s.codes...), func(i api.Ins) bool {
			return i.Op == api.OpRmw && !(i.Acq && i.Rel) || i.Op == api.OpAlu && i.Dst != i.A
		})
		want := 3
		if plain {
			want = 2
		}
		if n := s.holdsOn(t); n != want {
			t.Errorf("%s is right on %d architectures, want %d", s.what, n, want)
		}
	}
}
