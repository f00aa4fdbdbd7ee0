package cand_test

import (
	"fmt"
	"slices"
	"testing"

	"belated/api"
	"belated/cand"
)

var (
	setNames      = []string{"M", "R", "W", "X", "F", "I", "A", "Q", "L", "PR", "PW", "SR", "SW"}
	relationNames = []string{"po", "int", "ext", "ov", "addr", "data", "ctrl", "rf", "co", "fr", "corr"}
)

// 11.3

func TestNames(t *testing.T) {
	var want []api.Decl
	for _, n := range setNames {
		want = append(want, api.Decl{Name: n, Set: true})
	}
	for _, n := range relationNames {
		want = append(want, api.Decl{Name: n})
	}
	if got := cand.Names(); !slices.Equal(got, want) {
		t.Errorf("11.3: Names = %v", got)
	}
	x := with(code{put(0, 1), fence(3, 3)}, code{load(0, 0), isb(), swap(0, 7, 0)})
	for _, r := range cand.Runs(x) {
		var told []api.Decl
		for _, b := range cand.Bind(x, r) {
			told = append(told, api.Decl{Name: b.Name, Set: b.Set})
			if b.Set && b.R != (api.Rel{}) || !b.Set && b.S != 0 {
				t.Errorf("11.3: %s is both a set and a relation", b.Name)
			}
		}
		if !slices.Equal(told, want) {
			t.Errorf("11.3: Bind tells of %v", told)
		}
	}
}

// bound is what a name stands for in a Run.
func bound(t *testing.T, x api.Test, r api.Run, name string) api.Bound {
	t.Helper()
	bs := cand.Bind(x, r)
	k := slices.IndexFunc(bs, func(b api.Bound) bool { return b.Name == name })
	if k < 0 {
		t.Fatalf("11.3: no %s", name)
	}
	return bs[k]
}

func setIs(t *testing.T, what string, x api.Test, r api.Run, name string, events ...int) {
	t.Helper()
	var want api.Set
	for _, e := range events {
		want |= 1 << e
	}
	if b := bound(t, x, r, name); b != (api.Bound{Name: name, Set: true, S: want}) {
		t.Errorf("11.3: %s: %s = %b, want %b", what, name, b.S, want)
	}
}

// listed is the pairs of a relation, one behind the other.
func listed(r api.Rel) []int {
	var out []int
	for a, s := range r {
		for b := range api.MaxEvents {
			if s>>b&1 == 1 {
				out = append(out, a, b)
			}
		}
	}
	return out
}

func relationIs(t *testing.T, what string, x api.Test, r api.Run, name string, pairs ...int) {
	t.Helper()
	var want api.Rel
	for k := 0; k < len(pairs); k += 2 {
		want[pairs[k]] |= 1 << pairs[k+1]
	}
	if b := bound(t, x, r, name); b != (api.Bound{Name: name, R: want}) {
		t.Errorf("11.3: %s: %s = %v, want %v", what, name, listed(b.R), pairs)
	}
}

func TestSets(t *testing.T) {
	x := with(
		code{acq(load(0, 0)), weak(load(1, 1)), release(put(2, 1)), fence(1, 1), fence(1, 2), isb()},
		code{acq(swap(0, 7, 0)), release(add(0, 7, 1)), fence(2, 1), fence(2, 2), fence(1, 3), fence(3, 1)},
		code{load(0, 2), fence(3, 2), fence(2, 3), fence(3, 3), isb()},
	)
	right(t, x)
	runs := cand.Runs(x)
	if len(runs) == 0 {
		t.Fatal("11.1: no Runs")
	}
	for _, r := range runs {
		for name, want := range map[string][]int{
			"M": {0, 1, 2, 6, 7, 12}, "R": {0, 1, 6, 7, 12}, "W": {2, 6, 7}, "X": {6, 7},
			"F": {3, 4, 8, 9, 10, 11, 13, 14, 15}, "I": {5, 16}, "A": {0, 6}, "Q": {1}, "L": {2, 7},
			"PR": {3, 4, 10, 11, 13, 15}, "PW": {8, 9, 11, 13, 14, 15}, "SR": {3, 8, 10, 11, 14, 15}, "SW": {4, 9, 10, 13, 14, 15},
		} {
			setIs(t, "marks and fences", x, r, name, want...)
		}
	}
	// Each kind by itself is in its own sets, and in no other.
	for _, y := range []struct {
		i    api.Ins
		sets []string
	}{
		{load(0, 2), []string{"M", "R"}}, {acq(load(0, 0)), []string{"M", "R", "A"}}, {weak(load(0, 0)), []string{"M", "R", "Q"}},
		{put(2, 1), []string{"M", "W"}}, {store(7, 0), []string{"M", "W"}}, {release(put(0, 1)), []string{"M", "W", "L"}},
		{swap(0, 7, 2), []string{"M", "R", "W", "X"}}, {add(0, 7, 0), []string{"M", "R", "W", "X"}}, {acq(swap(0, 7, 0)), []string{"M", "R", "W", "X", "A"}},
		{release(add(0, 7, 0)), []string{"M", "R", "W", "X", "L"}}, {acq(release(add(0, 7, 0))), []string{"M", "R", "W", "X", "A", "L"}},
		{isb(), []string{"I"}},
		{fence(1, 1), []string{"F", "PR", "SR"}}, {fence(1, 2), []string{"F", "PR", "SW"}}, {fence(1, 3), []string{"F", "PR", "SR", "SW"}},
		{fence(2, 1), []string{"F", "PW", "SR"}}, {fence(2, 2), []string{"F", "PW", "SW"}}, {fence(2, 3), []string{"F", "PW", "SR", "SW"}},
		{fence(3, 1), []string{"F", "PR", "PW", "SR"}}, {fence(3, 2), []string{"F", "PR", "PW", "SW"}}, {fence(3, 3), []string{"F", "PR", "PW", "SR", "SW"}},
		{konst(0, 1), nil}, {move(0, 7), nil}, {xor(0, 7), nil}, {ifZero(0, 1), nil},
	} {
		x := with(code{y.i})
		right(t, x)
		r := cand.Runs(x)[0]
		for _, name := range setNames {
			var want []int
			if slices.Contains(y.sets, name) {
				want = []int{0}
			}
			setIs(t, fmt.Sprintf("%+v", y.i), x, r, name, want...)
		}
		for _, name := range relationNames {
			relationIs(t, fmt.Sprintf("%+v", y.i), x, r, name)
		}
	}
}

func TestNothingIsBound(t *testing.T) {
	for _, x := range []api.Test{with(nil), with(nil, nil, nil), with(code{konst(0, 1), ifZero(0, 3), move(1, 0)})} {
		r := cand.Runs(x)[0]
		for _, name := range setNames {
			setIs(t, "no event", x, r, name)
		}
		for _, name := range relationNames {
			relationIs(t, "no event", x, r, name)
		}
	}
}

// related is a Run, by its brief, and what some relations are in it; those of
// the others that the test names are empty.
type related struct {
	what  string
	test  api.Test
	brief string
	want  map[string][]int
}

func relationsAre(t *testing.T, names []string, list ...related) {
	t.Helper()
	for _, x := range list {
		r := theRun(t, x.test, x.brief)
		for _, name := range names {
			relationIs(t, x.what+" "+x.brief, x.test, r, name, x.want[name]...)
		}
	}
}

func TestThreadsAndPlaces(t *testing.T) {
	relationsAre(t, []string{"po", "int", "ext", "ov"},
		related{"one thread", with(code{load(0, 0), konst(1, 1), fence(3, 3), isb(), load(1, 1)}), "0=0 3=0; ", map[string][]int{
			"po": {0, 1, 0, 2, 0, 3, 1, 2, 1, 3, 2, 3}, "int": {0, 1, 0, 2, 0, 3, 1, 0, 1, 2, 1, 3, 2, 0, 2, 1, 2, 3, 3, 0, 3, 1, 3, 2}}},
		related{"two threads of one", with(code{put(0, 1)}, code{isb()}), "; 0", map[string][]int{"ext": {0, 1, 1, 0}}},
		related{"three threads", with(code{put(0, 1), put(1, 1)}, nil, code{fence(1, 1), load(0, 0)}), "3=0; 0 1", map[string][]int{
			"po": {0, 1, 2, 3}, "int": {0, 1, 1, 0, 2, 3, 3, 2}, "ext": {0, 2, 0, 3, 1, 2, 1, 3, 2, 0, 2, 1, 3, 0, 3, 1}, "ov": {0, 3, 3, 0}}},
		related{"loads of one location", with(code{load(0, 2)}, code{load(0, 2)}), "0=0 1=0; ", map[string][]int{"ext": {0, 1, 1, 0}, "ov": {0, 1, 1, 0}}},
		related{"side by side", with(code{part(0, 4, load(0, 0)), part(4, 4, load(0, 0))}), "0=0 1=0; ", map[string][]int{"po": {0, 1}, "int": {0, 1, 1, 0}}},
		related{"one within another", with(code{part(4, 4, load(0, 0)), part(7, 1, load(0, 0)), part(2, 2, load(0, 0))}), "0=0 1=0 2=0; ", map[string][]int{"po": {0, 1, 0, 2, 1, 2}, "int": {0, 1, 0, 2, 1, 0, 1, 2, 2, 0, 2, 1}, "ov": {0, 1, 1, 0}}},
		related{"the same bytes elsewhere", with(code{part(0, 4, load(0, 0)), part(0, 4, load(0, 1))}), "0=0 1=0; ", map[string][]int{"po": {0, 1}, "int": {0, 1, 1, 0}}},
		related{"where the Index says", with(code{konst(1, 5), by(1, part(0, 1, load(0, 0))), part(4, 2, load(0, 0)), part(0, 1, load(0, 0))}), "0=0 1=0 2=0; ", map[string][]int{"po": {0, 1, 0, 2, 1, 2}, "int": {0, 1, 0, 2, 1, 0, 1, 2, 2, 0, 2, 1}, "ov": {0, 1, 1, 0}}},
	)
	// As many events as there may be.
	f := fence(3, 3)
	x := with(code{load(0, 0), f, f, f, load(0, 0), f, f, f}, code{load(0, 0), f, f, f, load(0, 0), f, f, f}, code{load(0, 0), f, f, f, load(0, 0), f, f, f})
	r := cand.Runs(x)[0]
	for name, want := range map[string]int{"po": 3 * 28, "int": 3 * 56, "ext": 24 * 16, "ov": 30} {
		if n := len(listed(bound(t, x, r, name).R)); len(r.Events) != 24 || n != 2*want {
			t.Errorf("11.3: %d events, %s has %d pairs, want %d", len(r.Events), name, n/2, want)
		}
	}
}

func TestHanging(t *testing.T) {
	relationsAre(t, []string{"addr", "data", "ctrl"},
		related{"both", with(code{load(0, 0), xor(1, 0), by(1, store(0, 1))}), "0=0; 1", map[string][]int{"addr": {0, 1}, "data": {0, 1}}},
		related{"an address", with(code{load(0, 0), by(0, load(1, 1)), by(1, put(2, 1))}), "0=0 1=0; 2", map[string][]int{"addr": {0, 1, 1, 2}}},
		related{"a datum", with(code{load(0, 0), store(0, 1), load(1, 1), store(1, 2)}), "0=0 2=0; 1 3", map[string][]int{"data": {0, 1, 2, 3}}},
		related{"two reads, by a chain", with(code{load(0, 0), load(1, 1), alu(api.FnAdd, 2, 0, 1), move(3, 2), aluImm(api.FnOr, 4, 3, 1), by(3, store(4, 2))}), "0=0 1=0; 2", map[string][]int{"addr": {0, 2, 1, 2}, "data": {0, 2, 1, 2}}},
		related{"swaps", with(code{swap(0, 7, 0), by(0, swap(1, 0, 1)), store(1, 2)}), "0=0 1=0; 0 1 2", map[string][]int{"addr": {0, 1}, "data": {0, 1, 1, 2}}},
		related{"what was laid over", with(code{load(0, 0), konst(0, 1), by(0, store(0, 1)), load(1, 0), move(1, 7), store(1, 2)}), "0=0 2=0; 1 3", nil},
		related{"fences between are passed", with(code{fence(3, 3), load(0, 0), isb(), move(1, 0), fence(1, 1), store(1, 1)}), "1=0; 4", map[string][]int{"data": {1, 4}}},
		related{"nothing", with(code{load(0, 0), put(1, 1), by(7, store(6, 2))}, code{load(0, 0)}), "0=0 3=0; 1 2", nil},
		related{"of the second thread", with(code{load(0, 0), load(1, 0)}, code{store(0, 1), load(0, 2), by(0, store(0, 1))}), "0=0 1=0 3=0; 2 4", map[string][]int{"addr": {3, 4}, "data": {3, 4}}},
		related{"control: all events behind", with(code{load(0, 0), fence(3, 3), ifZero(0, 3), isb(), load(1, 1), fence(1, 1), put(2, 1), swap(2, 7, 0)}), "0=0 3=0 6=0; 5 6", map[string][]int{"ctrl": {0, 2, 0, 3, 0, 4, 0, 5, 0, 6}}},
		related{"two branches", with(code{load(0, 0), load(1, 1), ifZero(1, 3), put(2, 1), ifZero(0, 5), put(2, 2)}), "0=0 1=0; 2 3", map[string][]int{"ctrl": {0, 3, 1, 2, 1, 3}}},
		related{"a branch by two reads", with(code{load(0, 0), load(1, 1), alu(api.FnAdd, 2, 0, 1), unless(2, 5), put(2, 1)}), "0=0 1=0; 2", map[string][]int{"ctrl": {0, 2, 1, 2}}},
		related{"a branch that is gone", with(code{load(0, 0), ifZero(0, 3), isb(), put(1, 1)}), "0=0; 1", map[string][]int{"ctrl": {0, 1}}},
		related{"a branch that is passed over", with(code{load(0, 0), load(1, 1), ifZero(0, 4), ifZero(1, 4), put(1, 1)}), "0=0 1=0; 2", map[string][]int{"ctrl": {0, 2}}},
		related{"a branch by what a swap read", with(code{swap(0, 7, 0), move(1, 0), ifZero(1, 4), isb(), store(1, 1)}), "0=0; 0 1", map[string][]int{"data": {0, 1}, "ctrl": {0, 1}}},
		related{"a branch by a constant", with(code{load(0, 0), konst(0, 0), ifZero(0, 3), put(1, 1)}), "0=0; 1", nil},
		related{"a branch ahead of the read", with(code{ifZero(0, 1), load(0, 0), put(1, 1)}), "0=0; 1", nil},
		related{"a branch at the end", with(code{load(0, 0), put(1, 1), ifZero(0, 3)}), "0=0; 1", nil},
		related{"a branch of another thread", with(code{load(0, 0), ifZero(0, 2)}, code{put(1, 1), isb()}), "0=0; 1", nil},
	)
}

func TestSourcesAndOrder(t *testing.T) {
	names := []string{"rf", "co", "fr"}
	two, sums := with(code{put(0, 1)}, code{put(0, 2)}, code{load(0, 0)}), with(code{add(0, 7, 0)}, code{add(0, 6, 0)})
	edges := with(code{part(0, 1, put(0, 1))}, code{load(0, 0)}, code{part(7, 1, put(0, 2))})
	half := with(code{part(0, 1, put(0, 1))}, code{part(0, 2, put(0, 0x0202))}, code{part(0, 2, load(0, 0))})
	relationsAre(t, names,
		related{"one store", with(code{put(0, 1)}, code{load(0, 0)}), "1=1; 0", map[string][]int{"rf": {0, 1}}},
		related{"one store", with(code{put(0, 1)}, code{load(0, 0)}), "1=0; 0", map[string][]int{"fr": {1, 0}}},
		related{"of another location", with(code{put(1, 1)}, code{load(0, 0)}), "1=0; 0", nil},
		related{"two stores", two, "2=1; 0 1", map[string][]int{"rf": {0, 2}, "co": {0, 1}, "fr": {2, 1}}},
		related{"two stores", two, "2=2; 0 1", map[string][]int{"rf": {1, 2}, "co": {0, 1}}},
		related{"two stores", two, "2=0; 1 0", map[string][]int{"co": {1, 0}, "fr": {2, 0, 2, 1}}},
		related{"two stores", two, "2=2; 1 0", map[string][]int{"rf": {1, 2}, "co": {1, 0}, "fr": {2, 0}}},
		related{"three stores", with(code{put(0, 1)}, code{put(0, 2)}, code{put(0, 3)}), "; 2 0 1", map[string][]int{"co": {0, 1, 2, 0, 2, 1}}},
		related{"stores that do not meet", with(code{put(0, 1), put(1, 1), part(0, 2, put(2, 1)), part(2, 2, put(2, 1))}), "; 0 1 2 3", nil},
		related{"two loads of one store", with(code{put(0, 1)}, code{load(0, 0), load(1, 0)}), "1=1 2=1; 0", map[string][]int{"rf": {0, 1, 0, 2}}},
		related{"a sum and a store", with(code{add(0, 7, 0)}, code{put(0, 1)}), "0=0; 0 1", map[string][]int{"co": {0, 1}, "fr": {0, 1}}},
		related{"a sum and a store", with(code{add(0, 7, 0)}, code{put(0, 1)}), "0=1; 1 0", map[string][]int{"rf": {1, 0}, "co": {1, 0}}},
		related{"two sums", sums, "0=0 1=7; 0 1", map[string][]int{"rf": {0, 1}, "co": {0, 1}, "fr": {0, 1}}},
		related{"two sums", sums, "0=6 1=0; 1 0", map[string][]int{"rf": {1, 0}, "co": {1, 0}, "fr": {1, 0}}},
		related{"a sum alone", with(code{add(0, 7, 0)}), "0=0; 0", nil},
		related{"the own store, behind in the row", with(code{put(0, 1), load(0, 0)}, code{put(0, 2)}), "1=1; 2 0", map[string][]int{"rf": {0, 1}, "co": {2, 0}}},
		related{"the first and the last byte", edges, "1=0; 0 2", map[string][]int{"fr": {1, 0, 1, 2}}},
		related{"the first and the last byte", edges, "1=1; 0 2", map[string][]int{"rf": {0, 1}, "fr": {1, 2}}},
		related{"the first and the last byte", edges, fmt.Sprintf("1=%d; 2 0", 2<<56), map[string][]int{"rf": {2, 1}, "fr": {1, 0}}},
		related{"the first and the last byte", edges, fmt.Sprintf("1=%d; 2 0", 1|2<<56), map[string][]int{"rf": {0, 1, 2, 1}}},
		related{"a byte within two", half, "2=513; 1 0", map[string][]int{"rf": {0, 2, 1, 2}, "co": {1, 0}}},
		related{"a byte within two", half, "2=514; 1 0", map[string][]int{"rf": {1, 2}, "co": {1, 0}, "fr": {2, 0}}},
		related{"a byte within two", half, "2=1; 0 1", map[string][]int{"rf": {0, 2}, "co": {0, 1}, "fr": {2, 1}}},
		related{"a byte within two", half, "2=514; 0 1", map[string][]int{"rf": {1, 2}, "co": {0, 1}}},
		// Bytes of Init beside it are none that the first store touches.
		related{"a byte that was laid over", with(code{part(0, 1, put(0, 1))}, code{part(0, 1, put(0, 2))}, code{load(0, 0)}), "2=2; 0 1", map[string][]int{"rf": {1, 2}, "co": {0, 1}}},
		// Byte 0 is of the last store, byte 1 of the first: the one between touches byte 1.
		related{"a store between, of one byte", with(code{part(0, 2, put(0, 0x0101)), part(0, 1, put(0, 3))}, code{part(1, 1, put(0, 2))}, code{part(0, 2, load(0, 0))}), "3=259; 0 1 2", map[string][]int{"rf": {0, 3, 1, 3}, "co": {0, 1, 0, 2}, "fr": {3, 2}}},
	)
}

func TestReadsAnew(t *testing.T) {
	names := []string{"corr"}
	loads := with(code{put(0, 1)}, code{load(0, 0), load(1, 0)})
	within := with(code{load(0, 0), part(0, 1, put(0, 5)), load(1, 0)}, code{put(0, 1<<40)})
	meet := with(code{part(0, 4, load(0, 0)), part(2, 2, load(1, 0))}, code{part(2, 1, put(0, 1)), part(3, 1, put(0, 1))})
	corr := func(pairs ...int) map[string][]int { return map[string][]int{"corr": pairs} }
	relationsAre(t, names,
		related{"two loads", loads, "1=0 2=0; 0", nil},
		related{"two loads", loads, "1=1 2=1; 0", nil},
		related{"two loads", loads, "1=0 2=1; 0", corr(1, 2)},
		related{"two loads", loads, "1=1 2=0; 0", corr(1, 2)},
		related{"of two threads", with(code{put(0, 1)}, code{load(0, 0)}, code{load(0, 0)}), "1=0 2=1; 0", nil},
		related{"three loads", with(code{put(0, 1)}, code{load(0, 0), load(1, 0), load(2, 0)}), "1=0 2=1 3=1; 0", corr(1, 2, 1, 3)},
		related{"three loads", with(code{put(0, 1)}, code{load(0, 0), load(1, 0), load(2, 0)}), "1=0 2=1 3=0; 0", corr(1, 2, 2, 3)},
		related{"of two locations", with(code{put(0, 1)}, code{load(0, 0), load(1, 1)}), "1=1 2=0; 0", nil},
		related{"the own store between", with(code{load(0, 0), put(0, 5), load(1, 0)}), "0=0 2=5; 1", nil},
		related{"of another location between", with(code{put(0, 1)}, code{load(0, 0), put(1, 5), load(1, 0)}), "1=0 3=1; 0 2", corr(1, 3)},
		related{"another thread's store is not between", with(code{load(0, 0), load(1, 0)}, code{put(0, 1)}), "0=0 1=1; 2", corr(0, 1)},
		related{"an own store of one byte between", within, "0=0 2=5; 1 3", nil},
		related{"an own store of one byte between", within, fmt.Sprintf("0=0 2=%d; 3 1", 5|1<<40), corr(0, 2)},
		related{"an own store ahead of both", with(code{put(0, 5), load(0, 0), load(1, 0)}, code{put(0, 6)}), "1=5 2=6; 0 3", corr(1, 2)},
		related{"an own store behind both", with(code{load(0, 0), load(1, 0), put(0, 5)}, code{put(0, 6)}), "0=0 1=6; 3 2", corr(0, 1)},
		related{"bytes that meet", meet, "0=65536 1=1; 2 3", nil},
		related{"bytes that meet, one of them", meet, "0=65536 1=257; 2 3", corr(0, 1)},
		related{"bytes that do not", with(code{part(0, 1, load(0, 0)), part(1, 1, load(1, 0))}, code{put(0, 0x0101)}), "0=0 1=1; 2", nil},
		related{"only bytes that both touch", with(code{part(0, 4, load(0, 0)), part(2, 2, load(1, 0))}, code{part(0, 2, put(0, 1))}), "0=1 1=0; 2", nil},
		// What a swap writes is not between it and what comes behind it, though its bytes come from there.
		related{"a swap, and a load", with(code{swap(0, 7, 0), load(1, 0)}), "0=0 1=7; 0", corr(0, 1)},
		related{"a load, and a swap", with(code{load(0, 0), swap(1, 7, 0)}), "0=0 1=0; 1", nil},
		related{"a load, and a swap of something else", with(code{load(0, 0), swap(1, 7, 0)}, code{put(0, 1)}), "0=0 1=1; 2 1", corr(0, 1)},
		related{"a swap between two loads", with(code{load(0, 0), swap(1, 7, 0), load(2, 0)}), "0=0 1=0 2=7; 1", corr(1, 2)},
		related{"two swaps", with(code{swap(0, 7, 0), swap(1, 7, 0)}), "0=0 1=7; 0 1", corr(0, 1)},
	)
	// Sources count, not values.
	x := with(code{put(0, 1)}, code{put(0, 1)}, code{load(0, 0), load(1, 0)})
	parted := 0
	for _, r := range cand.Runs(x) {
		first, second := r.Sources[0].From, r.Sources[8].From
		if first == second {
			relationIs(t, "one source", x, r, "corr")
			continue
		}
		relationIs(t, "two sources", x, r, "corr", 2, 3)
		if first >= 0 && second >= 0 {
			parted++
		}
	}
	if parted != 4 {
		t.Errorf("11.1: %d Runs with two stores of one value as sources", parted)
	}
}
