package cand_test

import (
	"slices"
	"strings"

	"belated/api"
)

// The tests hold Runs against a model that takes the words of 11.1 one by one:
// all paths; all rows; all footprints that the operations could have. Of these
// it keeps what comes out as it was taken, and holds to (a) to (e).

// deed is a memory operation on a path.
type deed struct {
	i             api.Ins
	thread, place int
	event         int
	addr, data    []int // the reads that it hangs on, by their numbers as deeds
}

// story is a path of each thread, a row of the deeds there, and what comes of it.
type story struct {
	t     api.Test
	picks [api.MaxThreads]int
	paths [][]int
	deeds []deed
	at    []int         // by deed: where it stands in the row
	offs  []int         // by deed: the offset at which it lies
	from  []map[int]int // by deed that reads, by byte: the source
	olds  map[[2]int]int
}

// candidates are all Runs of a test, by their texts. The conditions whose
// letters are in without are not asked for.
func candidates(t api.Test, without string) map[string]api.Run {
	out := map[string]api.Run{}
	for _, picks := range product(counts(t)) {
		s := &story{t: t}
		copy(s.picks[:], picks)
		for thread, c := range t.Code {
			s.paths = append(s.paths, modelPaths(c)[picks[thread]])
		}
		s.gatherDeeds()
		for _, row := range permutations(len(s.deeds)) {
			s.at = make([]int, len(row))
			for at, k := range row {
				s.at[k] = at
			}
			if !strings.Contains(without, "a") && !s.holdsA() {
				continue
			}
			for _, offs := range product(s.places()) {
				if s.comesOut(offs) && s.holds(without) {
					r := s.run(row)
					out[whole(r)] = r
				}
			}
		}
	}
	return out
}

// counts is how many paths each thread has.
func counts(t api.Test) [][]int {
	var out [][]int
	for _, c := range t.Code {
		out = append(out, upTo(len(modelPaths(c))))
	}
	return out
}

func upTo(n int) []int {
	out := make([]int, n)
	for k := range out {
		out[k] = k
	}
	return out
}

// product is all ways to take one of each list.
func product(lists [][]int) [][]int {
	out := [][]int{nil}
	for _, l := range lists {
		var next [][]int
		for _, head := range out {
			for _, v := range l {
				next = append(next, append(slices.Clone(head), v))
			}
		}
		out = next
	}
	return out
}

// permutations is all rows of 0 to n - 1.
func permutations(n int) [][]int {
	if n == 0 {
		return [][]int{nil}
	}
	var out [][]int
	for _, p := range permutations(n - 1) {
		for at := range n {
			out = append(out, slices.Insert(slices.Clone(p), at, n-1))
		}
	}
	return out
}

// modelPaths is the paths of a right code, in the order of 10.1: of all rows
// of rising indices those that go so.
func modelPaths(c code) [][]int {
	var out [][]int
	for set := range 1 << len(c) {
		var p []int
		for at := range c {
			if set>>at&1 == 1 {
				p = append(p, at)
			}
		}
		p = append(p, len(c))
		goes := p[0] == 0
		for k := range len(p) - 1 {
			goes = goes && (p[k+1] == p[k]+1 || c[p[k]].Op == api.OpBranch && p[k+1] == c[p[k]].To)
		}
		if goes {
			out = append(out, p)
		}
	}
	slices.SortFunc(out, slices.Compare)
	for k, p := range out {
		out[k] = p[:len(p)-1]
	}
	return out
}

func reads(i api.Ins) bool { return i.Op == api.OpLoad || i.Op == api.OpRmw }

func writes(i api.Ins) bool { return i.Op == api.OpStore || i.Op == api.OpRmw }

func (s *story) gatherDeeds() {
	event := 0
	for thread, path := range s.paths {
		for place, index := range path {
			i := s.t.Code[thread][index]
			if reads(i) || writes(i) {
				d := deed{i: i, thread: thread, place: place, event: event, addr: s.hangs(thread, place, i.Index)}
				if writes(i) {
					d.data = s.hangs(thread, place, i.A)
				}
				s.deeds = append(s.deeds, d)
			}
			if reads(i) || writes(i) || i.Op == api.OpFence || i.Op == api.OpIsb {
				event++
			}
		}
	}
}

// def is the place that gives a register its value ahead of a place.
func (s *story) def(thread, place, reg int) int {
	for p := place - 1; p >= 0; p-- {
		i := s.t.Code[thread][s.paths[thread][p]]
		if i.Dst == reg {
			return p
		}
	}
	return -1
}

// hangs is the deeds that a register hangs on ahead of a place (10.4).
func (s *story) hangs(thread, place, reg int) []int {
	if reg < 0 {
		return nil
	}
	p := s.def(thread, place, reg)
	if p < 0 {
		return nil
	}
	switch i := s.t.Code[thread][s.paths[thread][p]]; i.Op {
	case api.OpConst:
		return nil
	case api.OpMove, api.OpAlu:
		return append(s.hangs(thread, p, i.A), s.hangs(thread, p, i.B)...)
	}
	return []int{slices.IndexFunc(s.deeds, func(d deed) bool { return d.thread == thread && d.place == p })}
}

// value is what a register holds ahead of a place; false, if a read that it
// hangs on has not come to anything yet.
func (s *story) value(thread, place, reg int) (int, bool) {
	p := s.def(thread, place, reg)
	if p < 0 {
		return s.t.Regs[thread][reg], true
	}
	i := s.t.Code[thread][s.paths[thread][p]]
	switch i.Op {
	case api.OpConst:
		return i.Imm, true
	case api.OpMove:
		return s.value(thread, p, i.A)
	case api.OpAlu:
		a, ok := s.value(thread, p, i.A)
		b, also := i.Imm, true
		if i.B >= 0 {
			b, also = s.value(thread, p, i.B)
		}
		return [...]int{api.FnAdd: a + b, api.FnSub: a - b, api.FnXor: a ^ b, api.FnAnd: a & b, api.FnOr: a | b}[i.Fn], ok && also
	}
	v, ok := s.olds[[2]int{thread, p}]
	return v, ok
}

// places is, deed by deed, the offsets that it could lie at.
func (s *story) places() [][]int {
	var out [][]int
	for _, d := range s.deeds {
		var offs []int
		for off := 0; off < 8; off += d.i.Size {
			if d.i.Index >= 0 && len(d.addr) > 0 || off == s.lies(d) {
				offs = append(offs, off)
			}
		}
		out = append(out, offs)
	}
	return out
}

// lies is where a deed lies, as its Index says; -1, if that is not known.
func (s *story) lies(d deed) int {
	index, ok := 0, true
	if d.i.Index >= 0 {
		index, ok = s.value(d.thread, d.place, d.i.Index)
	}
	if !ok {
		return -1
	}
	spot := ((d.i.Off+index)%8 + 8) % 8
	return spot - spot%d.i.Size
}

func (s *story) touches(k, loc, b int) bool {
	d := s.deeds[k]
	return d.i.Loc == loc && b >= s.offs[k] && b < s.offs[k]+d.i.Size
}

func (s *story) meets(j, k int) bool {
	for b := range 8 {
		if s.touches(j, s.deeds[k].i.Loc, b) && s.touches(k, s.deeds[k].i.Loc, b) {
			return true
		}
	}
	return false
}

// ahead tells whether deed j stands ahead of k on its own path.
func (s *story) ahead(j, k int) bool {
	return s.deeds[j].thread == s.deeds[k].thread && s.deeds[j].place < s.deeds[k].place
}

// comesOut lays the deeds at these offsets, gives each byte its source by (b),
// and tells whether all reads come to something, and the offsets to these.
func (s *story) comesOut(offs []int) bool {
	s.offs, s.from, s.olds = offs, make([]map[int]int, len(offs)), map[[2]int]int{}
	for k, d := range s.deeds {
		if reads(d.i) {
			s.from[k] = map[int]int{}
			for b := offs[k]; b < offs[k]+d.i.Size; b++ {
				s.from[k][b] = s.source(k, b)
			}
		}
	}
	for range s.deeds {
		for k := range s.deeds {
			s.read(k)
		}
	}
	for k, d := range s.deeds {
		if _, ok := s.olds[[2]int{d.thread, d.place}]; reads(d.i) && !ok || s.lies(d) != offs[k] {
			return false
		}
	}
	return true
}

// source is (b).
func (s *story) source(k, b int) int {
	last := -1
	for w, d := range s.deeds {
		if writes(d.i) && s.touches(w, s.deeds[k].i.Loc, b) && (s.at[w] < s.at[k] || s.ahead(w, k)) && (last < 0 || s.at[w] > s.at[last]) {
			last = w
		}
	}
	return last
}

// read lets a read come to something, if all its sources have.
func (s *story) read(k int) {
	v := 0
	for b, w := range s.from[k] {
		byteOf := s.t.Init[s.deeds[k].i.Loc] >> (8 * b) & 255
		if w >= 0 {
			n, ok := s.written(w)
			if !ok {
				return
			}
			byteOf = n >> (8 * (b - s.offs[w])) & 255
		}
		v |= byteOf << (8 * (b - s.offs[k]))
	}
	if reads(s.deeds[k].i) {
		s.olds[[2]int{s.deeds[k].thread, s.deeds[k].place}] = v
	}
}

// low is the low bytes of v, as a number from 0 on.
func low(v, size int) int {
	if size < 8 {
		v &= 1<<(8*size) - 1
	}
	return v
}

// written is what a deed writes; false, if that is not known.
func (s *story) written(w int) (int, bool) {
	d := s.deeds[w]
	v, ok := d.i.Imm, true
	if d.i.A >= 0 {
		v, ok = s.value(d.thread, d.place, d.i.A)
	}
	if d.i.Op == api.OpRmw && d.i.Fn == api.FnAdd {
		old, also := s.olds[[2]int{d.thread, d.place}]
		v, ok = v+old, ok && also
	}
	return low(v, d.i.Size), ok
}

func (s *story) holds(without string) bool {
	return (strings.Contains(without, "c") || s.holdsC()) && (strings.Contains(without, "d") || s.holdsD()) && (strings.Contains(without, "e") || s.holdsE())
}

func (s *story) holdsA() bool {
	for k, d := range s.deeds {
		for _, h := range slices.Concat(d.addr, d.data) {
			if s.at[k] < s.at[h] {
				return false
			}
		}
	}
	return true
}

func (s *story) holdsC() bool {
	for k := range s.deeds {
		for _, w := range s.from[k] {
			if w < 0 || s.at[w] < s.at[k] {
				continue
			}
			if s.deeds[w].i.Op == api.OpRmw {
				return false
			}
			for _, h := range slices.Concat(s.deeds[w].addr, s.deeds[w].data) {
				if s.at[h] > s.at[k] {
					return false
				}
			}
		}
	}
	return true
}

func (s *story) holdsD() bool {
	for w, d := range s.deeds {
		for k := range s.deeds {
			if writes(d.i) && s.ahead(k, w) && s.meets(k, w) && s.at[w] < s.at[k] {
				return false
			}
		}
	}
	return true
}

func (s *story) holdsE() bool {
	for thread, path := range s.paths {
		for place, index := range path {
			i := s.t.Code[thread][index]
			if i.Op != api.OpBranch {
				continue
			}
			next := append(slices.Clone(path), len(s.t.Code[thread]))[place+1]
			v, _ := s.value(thread, place, i.A)
			if goes := (v == 0) == i.Zero; goes && next != i.To || !goes && next != index+1 {
				return false
			}
		}
	}
	return true
}

// run is the story as a Run (11.2).
func (s *story) run(row []int) api.Run {
	r := api.Run{Paths: s.picks}
	k := 0
	for thread, path := range s.paths {
		for place, index := range path {
			i := s.t.Code[thread][index]
			e := api.Event{Thread: thread, Pos: place, At: index, Op: i.Op, Acq: i.Acq, Weak: i.Weak, Rel: i.Rel, Pred: i.Pred, Succ: i.Succ}
			if i.Op == api.OpFence || i.Op == api.OpIsb {
				r.Events = append(r.Events, e)
			}
			if !reads(i) && !writes(i) {
				continue
			}
			e.Reads, e.Writes, e.Span.Loc = reads(i), writes(i), i.Loc
			for b := range 8 {
				if s.touches(k, i.Loc, b) {
					e.Span.Mask |= 1 << b
					if w, ok := s.from[k][b]; ok {
						r.Sources = append(r.Sources, api.Source{Event: s.deeds[k].event, Byte: b, From: s.number(w)})
					}
				}
			}
			e.Old = s.olds[[2]int{thread, place}]
			if e.Writes {
				e.New, _ = s.written(k)
			}
			r.Events = append(r.Events, e)
			k++
		}
		for reg := range api.MaxRegs {
			r.Outcome.Regs[thread][reg], _ = s.value(thread, len(path), reg)
		}
	}
	for _, k := range row {
		if writes(s.deeds[k].i) {
			r.Order = append(r.Order, s.deeds[k].event)
		}
	}
	s.end(row, &r.Outcome)
	return r
}

func (s *story) number(w int) int {
	if w < 0 {
		return -1
	}
	return s.deeds[w].event
}

// end is what the locations hold at the end.
func (s *story) end(row []int, o *api.Outcome) {
	for loc := range o.Mem {
		for b := range 8 {
			v := s.t.Init[loc] >> (8 * b) & 255
			for _, w := range row {
				if writes(s.deeds[w].i) && s.touches(w, loc, b) {
					n, _ := s.written(w)
					v = n >> (8 * (b - s.offs[w])) & 255
				}
			}
			o.Mem[loc] |= v << (8 * b)
		}
	}
}
