package search_test

import (
	"maps"
	"slices"
	"testing"

	"belated/api"
	"belated/cond"
	"belated/mach"
	"belated/search"
)

// ends is the outcomes of a machine's walks, each state gone through once by its
// Key, or each as often as it is come to.
func ends(m mach.Machine, once bool) []api.Outcome {
	out, seen := map[api.Outcome]bool{}, map[string]bool{}
	var from func(m mach.Machine)
	from = func(m mach.Machine) {
		if once && seen[m.Key()] {
			return
		}
		seen[m.Key()] = true
		if m.Done() {
			out[m.Outcome()] = true
		}
		for i := range m.Moves() {
			twin := m.Twin()
			twin.Do(i)
			from(twin)
		}
	}
	from(m)
	return cond.Sort(slices.Collect(maps.Keys(out))...)
}

func byKeys(m mach.Machine) []api.Outcome { return ends(m, true) }

// told is all that a machine tells of its state.
type told struct {
	key   string
	done  bool
	out   api.Outcome
	moves int
}

func tells(m mach.Machine) told { return told{m.Key(), m.Done(), m.Outcome(), len(m.Moves())} }

// comes is whether All and Sleep of a machine of a test tell just these outcomes,
// in order, and leave it as it is.
func comes(t *testing.T, what string, x api.Test, m mach.Machine, want ...api.Outcome) {
	t.Helper()
	was := tells(m)
	want = cond.Sort(want...)
	if got := search.All(m); !slices.Equal(got, want) {
		t.Errorf("19.1: %s: All =\n %v, want\n %v", what, got, want)
	}
	if got := search.Sleep(x, m); !slices.Equal(got, want) {
		t.Errorf("19.3: %s: Sleep =\n %v, want\n %v", what, got, want)
	}
	if is := tells(m); is != was {
		t.Errorf("19.1: %s: the machine was %+v, is %+v", what, was, is)
	}
}

// reaches is whether Reach tells of each of these outcomes picks that come to it,
// and leaves the machine as it is.
func reaches(t *testing.T, what string, m mach.Machine, os ...api.Outcome) {
	t.Helper()
	was := tells(m)
	for _, o := range os {
		picks, ok := search.Reach(m, o)
		twin := m.Twin()
		if n := mach.Play(twin, picks...); !ok || n != len(picks) || !twin.Done() || twin.Outcome() != o {
			t.Errorf("19.4: %s: Reach of %v = %v, %v: %d of these come to %+v", what, o, picks, ok, n, tells(twin))
		}
	}
	if is := tells(m); is != was {
		t.Errorf("19.4: %s: the machine was %+v, is %+v", what, was, is)
	}
}

// misses is whether Reach tells of none of these outcomes.
func misses(t *testing.T, what string, m mach.Machine, os ...api.Outcome) {
	t.Helper()
	was := tells(m)
	for _, o := range os {
		if picks, ok := search.Reach(m, o); ok || len(picks) != 0 {
			t.Errorf("19.4: %s: Reach of %v, which is not come to, = %v, %v", what, o, picks, ok)
		}
	}
	if is := tells(m); is != was {
		t.Errorf("19.4: %s: the machine was %+v, is %+v", what, was, is)
	}
}

// near draws outcomes that are not among some: one of them with a number turned,
// what a state in the midst of a walk tells.
func (d *dice) near(m mach.Machine, os []api.Outcome) []api.Outcome {
	twin := m.Twin()
	d.midst(twin, d.below(6))
	near := []api.Outcome{{}, {Mem: locs{-77}}, twin.Outcome()}
	if len(os) > 0 {
		o := os[d.below(len(os))]
		if d.flag() {
			o.Mem[d.below(len(o.Mem))]++
		} else {
			o.Regs[d.below(len(o.Regs))][d.below(api.MaxRegs)]--
		}
		near = append(near, o)
	}
	return slices.DeleteFunc(near, func(o api.Outcome) bool { return slices.Contains(os, o) })
}

// met counts what was drawn.
type met struct {
	threads     [api.MaxThreads + 1]int
	archs       [api.ARM + 1]int
	ops         [api.OpBranch + 1]int
	sizes       [9]int
	one, most   int // tests with one outcome; the most outcomes of one
	midst, none int // states in the midst of a walk; those of which nothing comes
	missed      int
}

func (c *met) see(x api.Test, os []api.Outcome) {
	c.threads[len(x.Code)]++
	c.archs[x.Arch]++
	for _, codes := range x.Code {
		for _, i := range codes {
			c.ops[i.Op]++
			c.sizes[max(i.Size, 0)]++
		}
	}
	if len(os) == 1 {
		c.one++
	}
	c.most = max(c.most, len(os))
}

// 19.1, 19.3, 19.4: drawn tests, from their first state and from one in the midst
// of a walk. What comes of the first is what the kind's model allows.
func TestDrawnTests(t *testing.T) {
	t.Parallel()
	d := dice(193)
	c := met{}
	for n := range 600 {
		x := d.drawn(n)
		for _, k := range kinds() {
			m := k.make(x)
			want := allowed(t, x, k.text)
			c.see(x, want)
			comes(t, k.name, x, m, want...)
			reaches(t, k.name, m, want[d.below(len(want))], want[0], want[len(want)-1])
			near := d.near(m, want)
			c.missed += len(near)
			misses(t, k.name, m, near...)
			if d.midst(m, 1+d.below(9)) > 0 {
				c.midst++
			}
			rest := byKeys(m)
			if len(rest) == 0 {
				c.none++
			}
			comes(t, k.name+" from a state on", x, m, rest...)
			reaches(t, k.name+" from a state on", m, rest...)
			misses(t, k.name+" from a state on", m, d.near(m, rest)...)
			if t.Failed() {
				t.Fatalf("of the test %+v", x)
			}
		}
	}
	if slices.Min(c.threads[1:]) < 100 || slices.Min(c.archs[1:]) < 500 || slices.Min(c.ops[1:]) < 120 || min(c.sizes[1], c.sizes[2], c.sizes[4], c.sizes[8]) < 500 ||
		c.one < 100 || c.most < 40 || c.midst < 1500 || c.none < 40 || c.missed < 4000 {
		t.Errorf("drawn too thin: %+v", c)
	}
}

// 19.1, 19.3: small tests, all of whose walks are gone through, whatever the Keys.
func TestAllWalks(t *testing.T) {
	t.Parallel()
	d := dice(194)
	whole := 0
	for n := range 600 {
		x := d.drawn(n)
		if steps(x) > 8 {
			continue
		}
		whole++
		for _, k := range kinds() {
			m := k.make(x)
			d.midst(m, d.below(3))
			comes(t, k.name, x, m, ends(m, false)...)
		}
		if t.Failed() {
			t.Fatalf("of the test %+v", x)
		}
	}
	if whole < 160 {
		t.Errorf("drawn too thin: %d small tests", whole)
	}
}

// steps is the most moves that a walk of a test has.
func steps(x api.Test) int {
	n := 0
	for _, c := range x.Code {
		for _, i := range c {
			if i.Op >= api.OpLoad && i.Op <= api.OpIsb {
				n++
			}
			if i.Op == api.OpStore {
				n++
			}
		}
	}
	return n
}

// W6, W7 by these searches: one thread has one outcome; what interleavings come to
// the others come to.
func TestThreads(t *testing.T) {
	t.Parallel()
	d := dice(195)
	ones := 0
	for n := range 300 {
		x := d.drawn(n)
		inter := search.All(kinds()[0].make(x))
		for _, k := range kinds() {
			got := search.Sleep(x, k.make(x))
			if both := cond.Sort(slices.Concat(inter, got)...); !slices.Equal(both, got) {
				t.Fatalf("W6: %s: %v is not among %v: %+v", k.name, inter, got, x)
			}
			if len(x.Code) == 1 && len(got) != 1 {
				t.Fatalf("W7: %s: one thread comes to %v: %+v", k.name, got, x)
			}
		}
		if len(x.Code) == 1 {
			ones++
		}
	}
	if ones < 20 {
		t.Errorf("drawn too thin: %d tests of one thread", ones)
	}
}
