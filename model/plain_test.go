package model_test

import (
	"slices"
	"testing"

	"belated/api"
	"belated/cand"
	"belated/cat"
	"belated/cond"
	"belated/model"
	"belated/rel"
)

// plain is a Run as its sets and relations tell of it, asked pair by pair: the
// models of 13.1 without the language of chapter 12.
type plain struct {
	n  int
	bs map[string]api.Bound
}

func newPlain(t api.Test, r api.Run) plain {
	p := plain{len(r.Events), map[string]api.Bound{}}
	for _, b := range cand.Bind(t, r) {
		p.bs[b.Name] = b
	}
	return p
}

func (p plain) in(e int, sets ...string) bool {
	return slices.ContainsFunc(sets, func(s string) bool { return p.bs[s].S>>e&1 == 1 })
}

func (p plain) has(name string, a, b int) bool { return p.bs[name].R[a]>>b&1 == 1 }

// any tells whether something holds of an event.
func (p plain) any(holds func(e int) bool) bool {
	for e := range p.n {
		if holds(e) {
			return true
		}
	}
	return false
}

// ahead tells whether both are memory operations, a ahead of b on the path.
func (p plain) ahead(a, b int) bool { return p.has("po", a, b) && p.in(a, "M") && p.in(b, "M") }

func (p plain) seen(a, b int) bool {
	return p.has("rf", a, b) && !p.has("po", a, b) || p.has("co", a, b) || p.has("fr", a, b)
}

func (p plain) inter(a, b int) bool {
	return p.has("po", a, b) || p.has("rf", a, b) || p.has("co", a, b) || p.has("fr", a, b)
}

func (p plain) x86(a, b int) bool {
	kept := !p.in(a, "W") || !p.in(b, "R") || p.in(a, "X") || p.in(b, "X") || p.any(func(f int) bool {
		return p.in(f, "F") && p.has("po", a, f) && p.has("po", f, b)
	})
	return p.ahead(a, b) && kept || p.seen(a, b)
}

func (p plain) weak(a, b int) bool { return p.preserved(a, b) || p.seen(a, b) }

// preserved is the preserved order of RISC-V and Arm.
func (p plain) preserved(a, b int) bool {
	if !p.ahead(a, b) {
		return false
	}
	return p.in(b, "W") && p.has("ov", a, b) || p.has("corr", a, b) || p.in(a, "X") && p.has("rf", a, b) ||
		p.any(func(f int) bool { return p.has("po", a, f) && p.has("po", f, b) && p.parts(a, f, b) }) ||
		p.in(a, "A", "Q") || p.in(b, "L") || p.in(a, "L") && p.in(b, "A") || p.depends(a, b) ||
		p.in(b, "R") && p.any(func(i int) bool { return p.in(i, "I") && p.has("po", i, b) && p.settled(a, i) })
}

// parts tells whether fence f keeps a ahead of b.
func (p plain) parts(a, f, b int) bool {
	before := p.in(a, "R") && p.in(f, "PR") || p.in(a, "W") && p.in(f, "PW")
	return before && (p.in(b, "R") && p.in(f, "SR") || p.in(b, "W") && p.in(f, "SW"))
}

func (p plain) depends(a, b int) bool {
	direct := func(a, b int) bool { return p.has("addr", a, b) || p.has("data", a, b) }
	return direct(a, b) || p.in(b, "W") && p.has("ctrl", a, b) ||
		p.any(func(m int) bool { return direct(a, m) && p.has("rf", m, b) && p.has("po", m, b) }) ||
		p.in(b, "W") && p.any(func(m int) bool { return p.has("addr", a, m) && p.has("po", m, b) })
}

// settled tells whether what hangs on a ahead of an OpIsb is a branch or an
// address.
func (p plain) settled(a, i int) bool {
	return p.has("ctrl", a, i) || p.any(func(m int) bool { return p.has("addr", a, m) && p.has("po", m, i) })
}

// holds tells whether an order goes round in no ring, by taking away again and
// again what nothing that is left stands ahead of; and whether local holds.
func (p plain) holds(order func(a, b int) bool) bool {
	var left []int
	var ahead [api.MaxEvents][api.MaxEvents]bool
	for e := range p.n {
		left = append(left, e)
		for a := range p.n {
			ahead[e][a] = order(a, e)
		}
	}
	for len(left) > 0 {
		free := slices.IndexFunc(left, func(b int) bool {
			return !slices.ContainsFunc(left, func(a int) bool { return ahead[b][a] })
		})
		if free < 0 {
			return false
		}
		left = slices.Delete(left, free, free+1)
	}
	return !p.any(func(r int) bool { return p.any(func(w int) bool { return p.has("fr", r, w) && p.has("po", w, r) }) })
}

// holdsOf is what a model says of a Run.
func (p plain) holdsOf(arch int) bool {
	switch arch {
	case 0:
		return p.holds(p.inter)
	case api.X86:
		return p.holds(p.x86)
	}
	return p.holds(p.weak)
}

// 13.1, Run by Run: each text holds of just those of which the document's does,
// and its words do; whatever the architecture of the test. And 13.2.
func TestRunByRun(t *testing.T) {
	t.Parallel()
	archs := []int{0, api.X86, api.RISCV, api.ARM}
	var texts, docs [4]*cat.Model
	for _, arch := range archs {
		var e, f api.Errno
		texts[arch], e, _ = cat.Parse(model.Text(arch), cand.Names()...)
		docs[arch], f, _ = cat.Parse(docOf(arch), cand.Names()...)
		if e != api.OK || f != api.OK {
			t.Fatalf("13.1: Text(%d): %d, %d", arch, e, f)
		}
	}
	var some [4][2]int
	for n, own := range every {
		many(t, 100+n, 8, own, func(x api.Test) {
			var outcomes [4][]api.Outcome
			for _, r := range cand.Runs(x) {
				p, u, bs := newPlain(x, r), rel.First(len(r.Events)), cand.Bind(x, r)
				for _, arch := range archs {
					want := p.holdsOf(arch)
					got, _ := texts[arch].Holds(u, bs...)
					doc, _ := docs[arch].Holds(u, bs...)
					if got != want || doc != want {
						t.Fatalf("13.1: on %d %+v\nof %+v: %v, by the document's text %v, want %v", arch, r, x, got, doc, want)
					}
					if want {
						outcomes[arch] = append(outcomes[arch], r.Outcome)
						some[arch][1]++
					} else {
						some[arch][0]++
					}
				}
			}
			if got, want := allowed(t, x), cond.Sort(outcomes[own]...); !slices.Equal(got, want) {
				t.Fatalf("13.2: of %+v: %v, want %v", x, got, want)
			}
		})
	}
	for arch, n := range some {
		if n[0] < 500 || n[1] < 500 {
			t.Errorf("drawn too thin: on %d %d Runs do not hold, %d do", arch, n[0], n[1])
		}
	}
}
