package cat_test

import (
	"slices"
	"testing"

	"belated/api"
	"belated/cat"
)

// 12.2, 12.4: checks of each kind: what they ask, and whose name is told.
func TestChecks(t *testing.T) {
	for _, x := range []struct {
		text  string
		bs    []api.Bound
		u     api.Set
		holds bool
		name  string
	}{
		{text: "", holds: true},
		{text: "let a = r", holds: true},
		{text: "acyclic r as a", bs: []api.Bound{bindRel("r", of(0, 1, 1, 2, 0, 2))}, holds: true},
		{text: "acyclic r as a", bs: []api.Bound{bindRel("r", of(0, 1, 1, 2, 2, 0))}, name: "a"},
		{text: "acyclic r as a", bs: []api.Bound{bindRel("r", of(31, 31))}, name: "a"},
		{text: "acyclic r", bs: []api.Bound{bindRel("r", of(0, 1, 1, 0))}},
		{text: "acyclic 0 as a", holds: true},
		{text: "acyclic 0? as a", holds: true},
		{text: "acyclic 0? as a", u: 1, name: "a"},
		{text: "irreflexive r as a", bs: []api.Bound{bindRel("r", of(0, 1, 1, 2, 2, 0))}, holds: true},
		{text: "irreflexive r as a", bs: []api.Bound{bindRel("r", of(0, 1, 1, 1))}, name: "a"},
		{text: "irreflexive r+", bs: []api.Bound{bindRel("r", of(0, 1, 1, 0))}},
		{text: "empty r as a", bs: []api.Bound{bindRel("r", of())}, holds: true},
		{text: "empty r as a", bs: []api.Bound{bindRel("r", of(31, 0))}, name: "a"},
		{text: "empty W as a", bs: []api.Bound{bindSet("W", 0)}, holds: true},
		{text: "empty W as a", bs: []api.Bound{bindSet("W", 1<<31)}, name: "a"},
		{text: `empty W \ R as a`, bs: []api.Bound{bindSet("W", 5), bindSet("R", 7)}, holds: true},
		{text: `empty (W \ R) as a`, bs: []api.Bound{bindSet("W", 5), bindSet("R", 6)}, name: "a"},
		{text: `empty r \ s as a`, bs: []api.Bound{bindRel("r", of(0, 1)), bindRel("s", of(0, 1))}, holds: true},
		{text: "acyclic r as a irreflexive r as b empty r as c", bs: []api.Bound{bindRel("r", of(0, 0))}, name: "a"},
		{text: "empty r as c irreflexive r as b acyclic r as a", bs: []api.Bound{bindRel("r", of(0, 1, 1, 0))}, name: "c"},
		{text: "irreflexive r as b acyclic r as a empty r as c", bs: []api.Bound{bindRel("r", of(0, 1, 1, 0))}, name: "a"},
		{text: "irreflexive r as b acyclic r empty r as c", bs: []api.Bound{bindRel("r", of(0, 1, 1, 0))}},
		{text: "empty r as a empty W as a", bs: []api.Bound{bindSet("W", 1)}, name: "a"},
		{text: "empty r as W empty s as r", bs: []api.Bound{bindRel("s", of(0, 1))}, name: "r"},
		{text: "let a = r acyclic a as a let b = a ; a irreflexive b as b let rec c = b | c ; a empty c & s as c", bs: []api.Bound{bindRel("r", of(0, 1, 1, 2, 2, 3)), bindRel("s", of(0, 1, 0, 3))}, name: "c"},
		{text: "let a = r acyclic a as a let b = a ; a irreflexive b as b let rec c = b | c ; a empty c & s as c", bs: []api.Bound{bindRel("r", of(0, 1, 1, 2, 2, 3)), bindRel("s", of(0, 1, 2, 3))}, holds: true},
	} {
		if holds, name := parsed(t, x.text).Holds(x.u, x.bs...); holds != x.holds || name != x.name {
			t.Errorf("12.4: %q, %v: %v, %q", x.text, x.bs, holds, name)
		}
		got, want := agrees(t, x.text)
		sameAnswers(t, got, want, x.u, x.bs)
	}
}

// 12.4: which binding counts: the first of that name and kind; nothing, if
// there is none.
func TestBindings(t *testing.T) {
	other := of(9, 9)
	for _, x := range []struct {
		bs []api.Bound
		r  api.Rel
		w  api.Set
	}{
		{},
		{bs: []api.Bound{bindRel("r", of(0, 1)), bindSet("W", 3)}, r: of(0, 1), w: 3},
		{bs: []api.Bound{bindSet("W", 3), bindRel("r", of(0, 1))}, r: of(0, 1), w: 3},
		{bs: []api.Bound{bindRel("r", of(0, 1)), bindRel("r", other), bindSet("W", 3), bindSet("W", 1<<9)}, r: of(0, 1), w: 3},
		{bs: []api.Bound{bindRel("r", of()), bindRel("r", other), bindSet("W", 0), bindSet("W", 1<<9)}},
		{bs: []api.Bound{bindSet("r", 1<<9), bindRel("W", other), bindRel("r", of(0, 1)), bindSet("W", 3)}, r: of(0, 1), w: 3},
		{bs: []api.Bound{bindSet("r", 1<<9), bindRel("W", other)}},
		{bs: []api.Bound{{Name: "r", R: of(0, 1), S: 1 << 9}, {Name: "W", Set: true, S: 3, R: other}}, r: of(0, 1), w: 3},
		{bs: []api.Bound{{Name: "r", Set: true, R: other, S: 1 << 9}, {Name: "W", S: 1 << 9, R: other}}},
		{bs: []api.Bound{bindRel("R", other), bindRel("w", other), bindSet("", 1<<9), bindRel("r ", other), bindRel("let", other)}},
	} {
		m := parsed(t, "let a = r | 0 and b = W | W empty a as a empty b as b")
		want := []api.Bound{bindRel("r", x.r), bindSet("W", x.w), bindRel("a", x.r), bindSet("b", x.w), bindRel("s", of()), bindSet("R", 0)}
		for _, b := range want {
			if got, e := m.Value(b.Name, 7, x.bs...); got != b || e != api.OK {
				t.Errorf("12.4: %v: %s is %v, %d", x.bs, b.Name, got, e)
			}
		}
		name := ""
		switch {
		case x.r != of():
			name = "a"
		case x.w != 0:
			name = "b"
		}
		if holds, told := m.Holds(7, x.bs...); holds != (name == "") || told != name {
			t.Errorf("12.4: %v: %v, %q", x.bs, holds, told)
		}
	}
}

// 12.4: Value of names that are known at first, given, and neither.
func TestValueOfAnyName(t *testing.T) {
	names := []api.Decl{{Name: ""}, {Name: "let", Set: true}, {Name: "a b"}, {Name: "0"}, {Name: "r"}, {Name: "\x00é", Set: true}}
	m := parsedOver(t, "let a = 0* acyclic a as check", names...)
	for _, d := range names {
		want := api.Bound{Name: d.Name, Set: d.Set}
		if b, e := m.Value(d.Name, 5); b != want || e != api.OK {
			t.Errorf("12.4: Value(%q) = %v, %d", d.Name, b, e)
		}
		bound := api.Bound{Name: d.Name, Set: d.Set, S: 6, R: of(3, 4)}
		if d.Set {
			want.S = 6
		} else {
			want.R = of(3, 4)
		}
		if b, e := m.Value(d.Name, 5, bound); b != want || e != api.OK {
			t.Errorf("12.4: Value(%q) = %v, %d", d.Name, b, e)
		}
	}
	if b, e := m.Value("a", 5); b != bindRel("a", of(0, 0, 2, 2)) || e != api.OK {
		t.Errorf("12.4: %v, %d", b, e)
	}
	// A `0` in the text is no name, though one of that name is known.
	if b, e := m.Value("a", 0, bindRel("0", of(1, 2))); b != bindRel("a", of()) || e != api.OK {
		t.Errorf("12.4: %v, %d", b, e)
	}
	for _, name := range []string{"v", "A", "check", "rec", "acyclic", " r", "aa", "1"} {
		if b, e := m.Value(name, 5, bindRel(name, of(1, 2)), bindSet(name, 3)); b != (api.Bound{}) || e != api.ErrName {
			t.Errorf("12.4: Value(%q) = %v, %d", name, b, e)
		}
	}
	if b, e := parsedOver(t, "").Value("", 0, bindRel("", of(1, 2))); b != (api.Bound{}) || e != api.ErrName {
		t.Errorf("12.4: Value of no name = %v, %d", b, e)
	}
}

// 12.4: checks that do not hold do not hinder Value, nor lets behind them.
func TestValueBehindChecks(t *testing.T) {
	m := parsed(t, "empty r as a let b = r empty b as c let d = b ; b")
	bs := []api.Bound{bindRel("r", of(0, 1, 1, 2))}
	if b, e := m.Value("d", 0, bs...); b != bindRel("d", of(0, 2)) || e != api.OK {
		t.Errorf("12.4: %v, %d", b, e)
	}
	if holds, name := m.Holds(0, bs...); holds || name != "a" {
		t.Errorf("12.4: %v, %q", holds, name)
	}
}

// 12.4: Checks and Lets, in order, whatever else stands between.
func TestChecksAndLets(t *testing.T) {
	m := parsed(t, "acyclic r as z let z = W and b = r empty z let rec a = b and c = a irreflexive a as z empty c as a let d = z")
	if got := m.Checks(); !slices.Equal(got, []string{"z", "", "z", "a"}) {
		t.Errorf("12.4: %q", got)
	}
	if got := m.Lets(); !slices.Equal(got, []api.Decl{{Name: "z", Set: true}, {Name: "b"}, {Name: "a"}, {Name: "c"}, {Name: "d", Set: true}}) {
		t.Errorf("12.4: %v", got)
	}
	for _, text := range []string{"", "let a = r", "acyclic r"} {
		m := parsed(t, text)
		if len(m.Checks())+len(m.Lets()) != min(len(text), 1) {
			t.Errorf("12.4: %q: %q, %v", text, m.Checks(), m.Lets())
		}
	}
}

// R6: what Parse answers beside an error is no model, but may be asked.
func TestNoModel(t *testing.T) {
	m, e, _ := cat.Parse("acyclic")
	if m != nil || e != api.ErrEnd {
		t.Fatalf("12.3: %v, %d", m, e)
	}
	holds, name := m.Holds(1, bindRel("r", of()))
	b, e := m.Value("r", 1, bindRel("r", of()))
	if len(m.Checks()) != 0 || len(m.Lets()) != 0 || holds || name != "" || b != (api.Bound{}) || e != api.ErrName {
		t.Errorf("R5: %q, %v, %v, %q, %v, %d", m.Checks(), m.Lets(), holds, name, b, e)
	}
}
