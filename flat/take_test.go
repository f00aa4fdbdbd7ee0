package flat_test

import (
	"testing"

	"belated/api"
)

// Values of which no two bytes are alike, beside those of bytewise.
const (
	firstOwn  = 0x2827262524232221
	secondOwn = 0x3837363534333231
	others    = 0x4847464544434241
)

// lay lays the low bytes of a value over a location.
func lay(held *[8]byte, off, size, v int) {
	b := bytesOf(v)
	copy(held[off:off+size], b[:size])
}

// cut is bytes of a location, as a number.
func cut(held [8]byte, off, size int) int {
	var b [8]byte
	copy(b[:], held[off:off+size])
	return valueOf(b)
}

// 17.2: a read takes each byte from the last write ahead that is not performed,
// and else from the last one in the row, and else from Init: of every two writes
// of its own path and every read, with none, one and both of them performed.
func TestBytes(t *testing.T) {
	for _, s1 := range sizes {
		for _, o1 := range offsets[s1] {
			for _, s2 := range sizes {
				for _, o2 := range offsets[s2] {
					for performed := range 3 {
						bytes(t, part(o1, s1, put(y, firstOwn)), part(o2, s2, put(y, secondOwn)), performed)
					}
				}
			}
		}
	}
}

// bytes reads behind two writes, so many of which were performed, and behind one
// of another thread that was performed between them.
func bytes(t *testing.T, a, b api.Ins, performed int) {
	t.Helper()
	const off, size = 2, 2
	own := []api.Ins{a, b}
	for _, s := range sizes {
		for _, o := range offsets[s] {
			m := begun(t, from(test(code{a, b, part(o, s, load(0, y))}, code{part(off, size, put(y, others))}), bytewise))
			held := bytesOf(bytewise[y])
			for n, i := range own[:performed] {
				goes(t, m, op(0, n))
				lay(&held, i.Off, i.Size, i.Imm)
			}
			goes(t, m, op(1, 0))
			lay(&held, off, size, others)
			end := held
			for _, i := range own[performed:] {
				lay(&held, i.Off, i.Size, i.Imm)
				lay(&end, i.Off, i.Size, i.Imm)
			}
			goes(t, m, op(0, 2))
			for n := range own[performed:] {
				goes(t, m, op(0, performed+n))
			}
			mem := bytewise
			mem[y] = valueOf(end)
			ends(t, "bytes of four sources", m, mem, file{cut(held, o, s)})
			if t.Failed() {
				t.Fatalf("%+v, %+v, %d of them performed; a load of %d bytes at %d", a, b, performed, s, o)
			}
		}
	}
}

// 17.2: numbers written out: some bytes of a write of the own path that was not
// performed, some of a performed one of another thread, some of Init.
func TestThreeSources(t *testing.T) {
	m := begun(t, from(test(code{part(0, 2, put(x, 0x2221)), load(0, x)}, code{part(1, 1, put(x, 0x31)), part(4, 2, put(x, 0x4645))}), bytewise))
	goes(t, m, op(1, 0), op(1, 1), op(0, 1))
	under(t, "the store is left", m, op(0, 0))
	goes(t, m, op(0, 0))
	mem := bytewise
	mem[x] = 0x0807464504032221
	ends(t, "three sources", m, mem, file{0x0807464504032221})
	// The same, the own store performed first: another one's stands behind it.
	m = begun(t, from(test(code{part(0, 2, put(x, 0x2221)), load(0, x)}, code{part(1, 1, put(x, 0x31)), part(4, 2, put(x, 0x4645))}), bytewise))
	goes(t, m, op(0, 0), op(1, 0), op(0, 1), op(1, 1))
	mem[x] = 0x0807464504033121
	ends(t, "three sources, in turn", m, mem, file{0x0807060504033121})
}

// 17.2: what is handed on is the datum as it is ahead of the store, at the place
// where the store lies, and only its low bytes.
func TestHandedValues(t *testing.T) {
	for _, v := range odd {
		for _, size := range sizes {
			for _, off := range offsets[size] {
				for _, i := range []api.Ins{store(7, x), put(x, v)} {
					// Another address of that place, too.
					for _, index := range []int{0, 8, -8} {
						i := by(6, part(off, size, i))
						m := begun(t, from(test(code{i, konst(7, 99), konst(6, 3), part(off, size, load(0, x)), load(1, x)}), bytewise, file{6: index, 7: v}))
						goes(t, m, op(0, 4), op(0, 3), op(0, 0))
						held := bytesOf(bytewise[x])
						lay(&held, off, size, v)
						mem := bytewise
						mem[x] = valueOf(held)
						ends(t, "a value that was handed on", m, mem, file{cut(held, off, size), mem[x], 0, 0, 0, 0, 3, 99})
						if t.Failed() {
							t.Fatalf("%+v of %d", i, v)
						}
					}
				}
			}
		}
	}
}

// 17.2: what hangs on a read goes by what that came to: a datum, an address, a
// number that is added, through what is computed between.
func TestWhatHangs(t *testing.T) {
	m := begun(t, from(test(code{part(4, 4, load(0, x)), aluImm(api.FnSub, 1, 0, 1), part(0, 2, store(1, y)), by(1, part(0, 1, load(2, z))), part(0, 1, add(3, 2, z)), store(3, x)}), locs{7 << 32, -1, 0x0807060504030201}))
	goes(t, m, op(0, 0))
	under(t, "x is read", m, op(0, 2), op(0, 3))
	goes(t, m, op(0, 3))
	under(t, "z is read", m, op(0, 2), op(0, 4))
	goes(t, m, op(0, 4), op(0, 5), op(0, 2))
	ends(t, "what hangs on reads", m, locs{1, -0xFFFA, 0x0807060504030208}, file{7, 6, 7, 1})
}

// 17.2: an OpRmw takes what is last in the row, whatever others are to write,
// and a read behind it what it wrote.
func TestRmwsInTurn(t *testing.T) {
	m := begun(t, from(test(code{put(x, 1), add(0, 7, x), load(1, x)}, code{put(x, 10)}), locs{5}, file{7: 3}))
	under(t, "the store first", m, op(0, 0), op(1, 0))
	goes(t, m, op(0, 0), op(1, 0), op(0, 1), op(0, 2))
	ends(t, "an OpRmw", m, locs{13}, file{0: 10, 1: 13, 7: 3})
	// A read that went ahead of an OpRmw of which it was not known where it lies.
	for at := range 2 {
		m = begun(t, from(test(code{part(0, 1, load(0, y)), by(0, part(0, 1, add(1, 7, x))), part(0, 1, load(2, x))}), locs{5, at}, file{7: 3}))
		goes(t, m, op(0, 2), op(0, 0))
		if at == 0 {
			dies(t, "a read ahead of an OpRmw of that byte", m)
			continue
		}
		under(t, "a read ahead of an OpRmw beside it", m, op(0, 1))
		goes(t, m, op(0, 1))
		ends(t, "a read ahead of an OpRmw beside it", m, locs{5 | 3<<8, at}, file{0: 1, 2: 5, 7: 3})
	}
}
