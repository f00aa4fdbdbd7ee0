package cat_test

import (
	"slices"
	"testing"

	"belated/api"
	"belated/cat"
	"belated/rel"
)

// known is the names that most tests know at first: of r, which is there twice,
// the first one counts.
func known() []api.Decl {
	return []api.Decl{{Name: "r"}, {Name: "s"}, {Name: "q"}, {Name: "W", Set: true}, {Name: "R", Set: true}, {Name: "r", Set: true}}
}

// of is a relation: pairs, one behind the other.
func of(es ...int) api.Rel {
	var ps [][2]int
	for pair := range slices.Chunk(es, 2) {
		ps = append(ps, [2]int(pair))
	}
	return rel.Pair(ps...)
}

func bindRel(name string, r api.Rel) api.Bound { return api.Bound{Name: name, R: r} }

func bindSet(name string, s api.Set) api.Bound { return api.Bound{Name: name, Set: true, S: s} }

// refused fails if a text is not refused so.
func refused(t *testing.T, text string, e api.Errno, at int) {
	t.Helper()
	if m, gotE, gotAt := cat.Parse(text, known()...); m != nil || gotE != e || gotAt != at {
		t.Errorf("12.3: Parse(%.80q): %d at %d, want %d at %d", text, gotE, gotAt, e, at)
	}
}

// parsed is the model of a text, over known.
func parsed(t *testing.T, text string) *cat.Model {
	t.Helper()
	return parsedOver(t, text, known()...)
}

func parsedOver(t *testing.T, text string, names ...api.Decl) *cat.Model {
	t.Helper()
	m, e, at := cat.Parse(text, names...)
	if m == nil || e != api.OK || at != 0 {
		t.Fatalf("12.3: Parse(%.80q): %d at %d", text, e, at)
	}
	return m
}

// value is what the expression stands for, which names are bound so.
func value(t *testing.T, expression string, u api.Set, bs ...api.Bound) api.Bound {
	t.Helper()
	b, e := parsed(t, "let it = "+expression).Value("it", u, bs...)
	if e != api.OK || b.Name != "it" {
		t.Fatalf("12.4: Value of %q: %v, %d", expression, b, e)
	}
	return b
}

// isRel fails if an expression does not stand for that relation.
func isRel(t *testing.T, expression string, want api.Rel, u api.Set, bs ...api.Bound) {
	t.Helper()
	if got := value(t, expression, u, bs...); got != bindRel("it", want) {
		t.Errorf("12.2: %s: set %v %v, pairs %v, want pairs %v", expression, got.Set, rel.List(got.S), rel.Pairs(got.R), rel.Pairs(want))
	}
}

// isSet fails if an expression does not stand for that set.
func isSet(t *testing.T, expression string, want api.Set, bs ...api.Bound) {
	t.Helper()
	if got := value(t, expression, 0, bs...); got != bindSet("it", want) {
		t.Errorf("12.2: %s: set %v %v, pairs %v, want the set %v", expression, got.Set, rel.List(got.S), rel.Pairs(got.R), rel.List(want))
	}
}

// dice draws numbers, the same ones each time.
type dice uint64

func (d *dice) below(n int) int {
	*d = *d*6364136223846793005 + 1442695040888963407
	return int(uint64(*d) >> 33 % uint64(n))
}

func among[T any](d *dice, list ...T) T {
	return list[d.below(len(list))]
}

// set draws a set of few events, most of them low ones.
func (d *dice) set() api.Set {
	var es []int
	for range d.below(4) {
		es = append(es, among(d, 0, 1, 2, 3, 4, 31))
	}
	return rel.Events(es...)
}

// relation draws a relation of few pairs of these events.
func (d *dice) relation() api.Rel {
	var ps [][2]int
	for range d.below(7) {
		ps = append(ps, [2]int{among(d, 0, 1, 2, 3, 4, 31), among(d, 0, 1, 2, 3, 4, 31)})
	}
	return rel.Pair(ps...)
}

// bindings draws what known stands for: sometimes a name is not there, or there
// again, or as the other kind, and names that nobody knows are among them.
func (d *dice) bindings() []api.Bound {
	var bs []api.Bound
	for _, b := range known() {
		for range among(d, 1, 1, 1, 1, 0, 2) {
			bs = append(bs, api.Bound{Name: b.Name, Set: b.Set != (d.below(9) == 0), S: d.set(), R: d.relation()})
		}
	}
	for _, name := range []string{"a", "p", "v", "let", ""} {
		if d.below(3) == 0 {
			bs = append(bs, api.Bound{Name: name, Set: d.below(2) == 0, S: d.set(), R: d.relation()})
		}
	}
	for n := range bs {
		k := n + d.below(len(bs)-n)
		bs[n], bs[k] = bs[k], bs[n]
	}
	return bs
}
