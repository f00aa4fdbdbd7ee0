package cand

import (
	"slices"

	"belated/api"
	"belated/bits"
	"belated/flow"
	"belated/uir"
)

// sight is what Runs of one scene differ by: all else that they tell comes of
// it. Operations are told by their numbers in the scene.
type sight struct {
	order [api.MaxOps]int         // the writes, in the row's order
	masks [api.MaxOps]int         // the bytes that an operation touches; 0 as long as that is not known
	from  [api.MaxOps][window]int // by read and byte that it touches: its source
}

// play is a row that is gone through from its beginning on: by (a) and (c) all
// that an operation comes to hangs on reads that stand ahead of it.
type play struct {
	*scene
	sight
	row   []int
	at    [api.MaxOps]int // by operation, where it stands in the row
	laid  int             // the operations that were gone through: a bit each
	wrote int             // how many of them write
	offs  [api.MaxOps]int // where an operation lies in its location
	data  [api.MaxOps]int // what its A holds, or its Imm
	news  [api.MaxOps]int // what a write writes, as it lies in its location
	olds  [api.MaxThreads][api.MaxCode]int
	known [api.MaxThreads]int // which reads of a thread were gone through: a bit a place
}

func newPlay(s *scene, row []int) *play {
	p := &play{scene: s, row: row}
	for at, k := range row {
		p.at[k] = at
	}
	return p
}

// holds goes through the row, and tells whether (b), (c) and (d) hold of it.
func (p *play) holds() bool {
	for _, k := range p.row {
		p.find()
		if !p.inTurn(k) || !p.lay(k) {
			return false
		}
	}
	return p.sourced()
}

// find works out the footprints and the data that have come to be known: not
// only of what is laid next, since a read may take what is written behind it.
func (p *play) find() {
	for k, o := range p.ops {
		if p.masks[k] != 0 || o.needs&^p.laid != 0 {
			continue
		}
		i := o.ins
		p.offs[k] = bits.Place(i.Off, p.value(o, i.Index), i.Size)
		p.masks[k] = bits.Mask(p.offs[k], i.Size)
		p.data[k] = i.Imm
		if i.A >= 0 {
			p.data[k] = p.value(o, i.A)
		}
		p.news[k] = bits.Put(0, p.offs[k], i.Size, p.data[k])
	}
}

// value is what a register holds ahead of an operation; 0 of none.
func (p *play) value(o op, reg int) int {
	thread := o.thread
	v, _ := flow.Value(p.test.Code[thread], p.paths[thread], p.test.Regs[thread], o.place, reg, p.olds[thread][:], p.known[thread])
	return v
}

// inTurn tells whether no write that was laid stands behind operation k on its
// path and meets it (d).
func (p *play) inTurn(k int) bool {
	for _, w := range p.order[:p.wrote] {
		if p.ahead(k, w) && p.meet(k, w) {
			return false
		}
	}
	return true
}

func (p *play) meet(a, b int) bool {
	return p.ops[a].ins.Loc == p.ops[b].ins.Loc && bits.Meet(p.masks[a], p.masks[b]) != 0
}

// lay goes through the operation that is next in the row; false, if it takes
// what an OpRmw behind it writes (c).
func (p *play) lay(k int) bool {
	i := p.ops[k].ins
	if uir.Reads(i) && !p.take(k) {
		return false
	}
	if uir.Writes(i) {
		p.order[p.wrote] = k
		p.wrote++
	}
	p.laid |= 1 << k
	return true
}

// take gives a read its bytes, and an OpRmw what it writes.
func (p *play) take(k int) bool {
	o := p.ops[k]
	v := p.test.Init[o.ins.Loc]
	for b := range window {
		if p.masks[k]>>b&1 == 0 {
			continue
		}
		w := p.source(k, b)
		if w != nowhere {
			if p.behind(w, k) && p.ops[w].ins.Op == api.OpRmw {
				return false
			}
			v = bits.Blend(v, p.news[w], 1<<b)
		}
		p.from[k][b] = w
	}
	off, size := p.offs[k], o.ins.Size
	old := bits.Get(v, off, size)
	p.olds[o.thread][o.place] = old
	p.known[o.thread] |= 1 << o.place
	if o.ins.Op == api.OpRmw {
		p.news[k] = bits.Put(0, off, size, bits.Rmw(o.ins.Fn, old, p.data[k], size))
	}
	return true
}

// source is where a read takes a byte from, by the footprints that are known:
// the write that stands last in the row, of those that touch the byte and
// stand ahead of the read, in the row or on its path.
func (p *play) source(k, b int) int {
	loc := p.ops[k].ins.Loc
	for _, w := range slices.Backward(p.row) {
		i := p.ops[w].ins
		touches := uir.Writes(i) && i.Loc == loc && p.masks[w]>>b&1 == 1
		if touches && (p.behind(k, w) || p.ahead(w, k)) {
			return w
		}
	}
	return nowhere
}

// behind tells whether operation a stands behind b in the row.
func (p *play) behind(a, b int) bool {
	return p.at[a] > p.at[b]
}

// sourced tells whether all bytes were taken from their sources (b), now that
// all footprints are known. One whose source is another one had it behind it,
// and its address or datum was not known then (c).
func (p *play) sourced() bool {
	for k, o := range p.ops {
		if !uir.Reads(o.ins) {
			continue
		}
		for b := range window {
			if p.masks[k]>>b&1 == 1 && p.source(k, b) != p.from[k][b] {
				return false
			}
		}
	}
	return true
}
