package cand_test

import (
	"slices"
	"testing"

	"belated/api"
	"belated/cand"
	"belated/rel"
	"belated/uir"
)

// byTheModel holds the Runs of a test against those of the model: the same
// ones, each once.
func byTheModel(t *testing.T, x api.Test) []api.Run {
	t.Helper()
	runs, want := cand.Runs(x), candidates(x, "")
	seen := map[string]bool{}
	for _, r := range runs {
		text := whole(r)
		if _, ok := want[text]; !ok {
			t.Fatalf("11.1: %+v\nis told, and no candidate of %+v", r, x)
		}
		if seen[text] {
			t.Fatalf("11.2: %+v\nis told twice of %+v", r, x)
		}
		seen[text] = true
	}
	for text, r := range want {
		if !seen[text] {
			t.Fatalf("11.1: %+v\nis not told of %+v", r, x)
		}
	}
	return runs
}

// many hands out drawn tests, the more the fewer operations they have.
func many(seed, share int, each func(x api.Test)) {
	d := dice(seed)
	for ops, n := range []int{20, 300, 1000, 3000, 2000, 600, 120} {
		for range (n + share - 1) / share {
			each(d.test(ops))
		}
	}
}

// 11.1, 11.2
func TestDrawnTestsByTheModel(t *testing.T) {
	most := 0
	many(201, 1, func(x api.Test) { most = max(most, len(byTheModel(t, x))) })
	if most < 100 {
		t.Errorf("drawn too thin: no test has more than %d Runs", most)
	}
}

// 11.1, 11.2, of all tests of two threads with up to two of these each, and of
// one thread with up to four.
func TestSmallTestsByTheModel(t *testing.T) {
	kinds := code{
		load(1, 0), put(0, 1), store(1, 0), add(1, 7, 0), part(0, 4, put(0, 2)), part(2, 2, load(2, 0)), by(1, part(0, 1, store(7, 0))), ifZero(1, 0),
	}
	rows := [][]code{{nil}}
	for range 4 {
		var next []code
		for _, c := range rows[len(rows)-1] {
			for _, i := range kinds {
				next = append(next, append(c[:len(c):len(c)], i))
			}
		}
		rows = append(rows, next)
	}
	aimed := func(c code) code {
		c = slices.Clone(c)
		for at := range c {
			if c[at].Op == api.OpBranch {
				c[at].To = min(at+2, len(c))
			}
		}
		return c
	}
	short := slices.Concat(rows[1:3]...)
	for n, c := range short {
		for _, other := range short[:n+1] {
			if x := with(aimed(c), aimed(other)); uir.Branches(slices.Concat(c, other)...) <= api.MaxBranches {
				byTheModel(t, x)
			}
		}
	}
	for _, c := range slices.Concat(rows...) {
		if uir.Branches(c...) <= api.MaxBranches {
			byTheModel(t, with(aimed(c)))
		}
	}
}

// 11.3
func TestDrawnBindingsByTheModel(t *testing.T) {
	empty, full := map[string]int{}, map[string]int{}
	many(202, 8, func(x api.Test) {
		for _, r := range cand.Runs(x) {
			got, want := cand.Bind(x, r), modelBind(x, r)
			for n, b := range want {
				if len(got) != len(want) || got[n] != b {
					t.Fatalf("11.3: %s of %+v\nof %+v:\n got %+v\nwant %+v", b.Name, r, x, got, b)
				}
				if b.S == 0 && b.R == (api.Rel{}) {
					empty[b.Name]++
				} else {
					full[b.Name]++
				}
			}
		}
	})
	for _, name := range slices.Concat(setNames, relationNames) {
		if empty[name] < 3 || full[name] < 20 {
			t.Errorf("drawn too thin: %s is empty %d times, and %d times not", name, empty[name], full[name])
		}
	}
}

// 11.4: each byte that is read has one source; a write that touches it, and
// wrote what was read.
func TestOneSource(t *testing.T) {
	many(203, 4, func(x api.Test) {
		for _, r := range cand.Runs(x) {
			var want [][2]int
			for n, e := range r.Events {
				for b := range 8 {
					if e.Reads && e.Span.Mask>>b&1 == 1 {
						want = append(want, [2]int{n, b})
					}
				}
			}
			var got [][2]int
			for _, s := range r.Sources {
				got = append(got, [2]int{s.Event, s.Byte})
				e, v := r.Events[s.Event], x.Init[r.Events[s.Event].Span.Loc]>>(8*s.Byte)&255
				if s.From >= 0 {
					w := r.Events[s.From]
					if !w.Writes || w.Span.Loc != e.Span.Loc || w.Span.Mask>>s.Byte&1 == 0 {
						t.Fatalf("11.4: %+v is no source of byte %d of %+v", w, s.Byte, e)
					}
					v = byteOf(w.Span, w.New, s.Byte)
				}
				if v != byteOf(e.Span, e.Old, s.Byte) {
					t.Fatalf("11.1: byte %d of %+v is %d", s.Byte, e, v)
				}
			}
			if !slices.Equal(got, want) {
				t.Fatalf("11.4: %+v has Sources of %v", r, got)
			}
		}
	})
}

// byteOf is a byte of the location, of an access with that value.
func byteOf(s api.Span, v, b int) int {
	off := 0
	for s.Mask>>off&1 == 0 {
		off++
	}
	return v >> (8 * (b - off)) & 255
}

// 11.4: co is a strict order of the writes that touch one byte.
func TestStrictOrder(t *testing.T) {
	many(204, 4, func(x api.Test) {
		for _, r := range cand.Runs(x) {
			co := bound(t, x, r, "co").R
			for at := range api.MaxLocs * 8 {
				var ws []int
				for n, e := range r.Events {
					if e.Writes && e.Span.Loc == at/8 && e.Span.Mask>>(at%8)&1 == 1 {
						ws = append(ws, n)
					}
				}
				here := rel.Meet(co, rel.Cross(rel.Events(ws...), rel.Events(ws...)))
				if n := len(ws); rel.Count(here) != n*(n-1)/2 || !rel.Acyclic(here) || rel.Plus(here) != here {
					t.Fatalf("11.4: co of %v is %v", ws, rel.Pairs(here))
				}
			}
		}
	})
}

// 11.4: an event for each instruction on the paths that is one; and all is as
// the codes by themselves tell it.
func TestAsTheCodesTell(t *testing.T) {
	many(205, 4, func(x api.Test) {
		for _, r := range cand.Runs(x) {
			var events []api.Event
			var writers []int
			for thread, c := range x.Code {
				path, n := modelPaths(c)[r.Paths[thread]], 0
				var olds []int
				for _, e := range r.Events {
					if e.Thread == thread && e.Reads {
						olds = append(olds, e.Old)
					}
				}
				out, told, gone, e := uir.Local(c, x.Regs[thread], olds...)
				if e != api.OK || out != r.Outcome.Regs[thread] || !slices.Equal(gone, path) {
					t.Fatalf("11.2: thread %d of %+v by itself: %v, %v, %d", thread, r, out, gone, e)
				}
				for _, index := range path {
					if i := c[index]; reads(i) || writes(i) || i.Op == api.OpFence || i.Op == api.OpIsb {
						n++
					}
				}
				if n != len(told) {
					t.Fatalf("11.4: %d events of thread %d of %+v, want %d", len(told), thread, r, n)
				}
				for _, ev := range told {
					ev.Thread = thread
					events = append(events, ev)
				}
			}
			for n, e := range r.Events {
				if e.Writes {
					writers = append(writers, n)
				}
			}
			if !slices.Equal(events, r.Events) || !slices.Equal(slices.Sorted(slices.Values(r.Order)), writers) {
				t.Fatalf("11.2: %+v: Events are not %+v, or Order not of %v", r, events, writers)
			}
		}
	})
}

// state is where interleavings stand.
type state struct {
	at [api.MaxThreads]int
	api.Outcome
}

// interleavings is all outcomes of threads that go on one instruction at a time.
func interleavings(t api.Test) map[api.Outcome]bool {
	out, seen := map[api.Outcome]bool{}, map[state]bool{}
	var on func(s state)
	on = func(s state) {
		if seen[s] {
			return
		}
		seen[s] = true
		stuck := true
		for thread, c := range t.Code {
			if s.at[thread] < len(c) {
				stuck = false
				on(stepped(s, thread, c[s.at[thread]]))
			}
		}
		if stuck {
			out[s.Outcome] = true
		}
	}
	on(state{Outcome: api.Outcome{Regs: t.Regs, Mem: t.Init}})
	return out
}

// stepped is a state behind an instruction of a thread, as uir tells of a code
// of that instruction alone.
func stepped(s state, thread int, i api.Ins) state {
	if i.Op == api.OpBranch {
		if (s.Regs[thread][i.A] == 0) == i.Zero {
			s.at[thread] = i.To
		} else {
			s.at[thread]++
		}
		return s
	}
	s.at[thread]++
	off := 0
	if reads(i) || writes(i) {
		index := 0
		if i.Index >= 0 {
			index = s.Regs[thread][i.Index]
		}
		off = ((i.Off+index)%8 + 8) % 8 / i.Size * i.Size
	}
	old := low(s.Mem[i.Loc]>>(8*off), i.Size)
	out, events, _, _ := uir.Local(code{i}, s.Regs[thread], old)
	s.Regs[thread] = out
	if writes(i) {
		for b := range i.Size {
			s.Mem[i.Loc] = s.Mem[i.Loc]&^(255<<(8*(off+b))) | events[0].New>>(8*b)&255<<(8*(off+b))
		}
	}
	return s
}

// Runs in which po, rf, co and fr go round in no ring come to just what
// interleavings do; and there is a Run of each.
func TestInterleavingsAreAmongThem(t *testing.T) {
	weaker := 0
	many(206, 2, func(x api.Test) {
		want, got, all := interleavings(x), map[api.Outcome]bool{}, map[api.Outcome]bool{}
		for _, r := range cand.Runs(x) {
			all[r.Outcome] = true
			order := rel.Union(bound(t, x, r, "po").R, bound(t, x, r, "rf").R, bound(t, x, r, "co").R, bound(t, x, r, "fr").R)
			if rel.Acyclic(order) {
				got[r.Outcome] = true
			}
			if !want[r.Outcome] && rel.Acyclic(order) {
				t.Fatalf("%+v\nof %+v comes to what no interleaving does", r, x)
			}
		}
		for o := range want {
			if !got[o] {
				t.Fatalf("%+v is not come to by %+v", o, x)
			}
		}
		if len(all) > len(want) {
			weaker++
		}
	})
	if weaker < 100 {
		t.Errorf("drawn too thin: only %d tests come to more than interleavings", weaker)
	}
}
