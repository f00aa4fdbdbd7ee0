package cat_test

import (
	"strconv"
	"strings"
	"testing"

	"belated/api"
	"belated/cat"
)

// manyLets is a model that gives names, from n0 on, each by a statement of its
// own.
func manyLets(n int) string {
	var b strings.Builder
	for k := range n {
		b.WriteString("let n" + strconv.Itoa(k) + " = 0 ")
	}
	return b.String()
}

// oneLet is a model that gives names, from n0 on, by one statement.
func oneLet(begin string, n int) string {
	var list []string
	for k := range n {
		list = append(list, "n"+strconv.Itoa(k)+" = 0")
	}
	return begin + strings.Join(list, " and ")
}

// 12.3: of a name that is there twice at first the first counts.
func TestNamesKnownTwice(t *testing.T) {
	isSetFirst := []api.Decl{{Name: "r", Set: true}, {Name: "r"}, {Name: "r", Set: true}}
	isRelFirst := isSetFirst[1:]
	if m, e, at := cat.Parse("acyclic r", isSetFirst...); m != nil || e != api.ErrType || at != 8 {
		t.Errorf("12.3: %d at %d", e, at)
	}
	if m, e, at := cat.Parse("empty [r]", isRelFirst...); m != nil || e != api.ErrType || at != 7 {
		t.Errorf("12.3: %d at %d", e, at)
	}
	parsedOver(t, "empty [r]", isSetFirst...)
	parsedOver(t, "acyclic r", isRelFirst...)
	for _, names := range [][]api.Decl{isSetFirst, isRelFirst} {
		b, e := parsedOver(t, "", names...).Value("r", 0, bindRel("r", of(1, 2)), bindSet("r", 5))
		want := bindRel("r", of(1, 2))
		if names[0].Set {
			want = bindSet("r", 5)
		}
		if b != want || e != api.OK {
			t.Errorf("12.4: %v, %d", b, e)
		}
	}
}

// 12.3: without names none is known, but `0`.
func TestNoNames(t *testing.T) {
	for text, at := range map[string]int{"acyclic r": 8, "empty 0 | 0* ; W": 15, "let a = 0 let b = W": 18} {
		if m, e, gotAt := cat.Parse(text); m != nil || e != api.ErrName || gotAt != at {
			t.Errorf("12.3: Parse(%q): %d at %d", text, e, gotAt)
		}
	}
	m := parsedOver(t, "let a = 0* let b = a | 0? irreflexive b & 0 as c acyclic a")
	if ok, name := m.Holds(0); !ok || name != "" {
		t.Errorf("12.4: %v, %q", ok, name)
	}
	if ok, name := m.Holds(8); ok || name != "" {
		t.Errorf("12.4: %v, %q", ok, name)
	}
}

// 12.3: names that are known, or given ahead in the statement.
func TestNamesGivenTwice(t *testing.T) {
	for text, at := range map[string]int{
		"let r = s": 4, "let W = r": 4, "let rec r = s": 8, "let rec W = r": 8, "let a = r and r = s": 14, "let rec a = r and W = s": 18,
		"let a = r let a = s": 14, "let a = r let rec a = s": 18, "let rec a = r let a = s": 18, "let a = W let a = W": 14,
		"let a = r and a = s": 14, "let rec a = r and a = r": 18, "let a = r and b = s and a = r": 24, "let a = r and b = s and b = r and a = r": 24,
		"let a = r acyclic a as a let b = a let a = b": 39,
		// A name given twice ahead of an expression that is wrong, in the same statement.
		"let a = v and a = s": 14, "let r = v": 4, "let a = W & r and r = v": 18, `let rec p = r \ p and p = r`: 22, "let rec a = W and r = s": 18,
	} {
		refused(t, text, api.ErrTwice, at)
	}
	// But not ahead of one in a statement that stands ahead.
	refused(t, "acyclic v let r = s", api.ErrName, 8)
	refused(t, "let a = W | r let a = s", api.ErrType, 12)
	refused(t, `let rec p = r \ p let p = s`, api.ErrMono, 16)
	// The names of checks are not given: they may be known, and there twice.
	parsed(t, "acyclic r as r acyclic s as r acyclic s as W let a = r acyclic a as a acyclic a as b let b = a")
	refused(t, "acyclic r as a acyclic a", api.ErrName, 23)
}

// 12.3: MaxNames names are given, and one more.
func TestTooManyNames(t *testing.T) {
	for _, text := range []string{manyLets(64), oneLet("let ", 64), oneLet("let rec ", 64)} {
		if lets := parsed(t, text).Lets(); len(lets) != 64 || lets[63].Name != "n63" {
			t.Errorf("12.4: %d lets", len(lets))
		}
		parsed(t, text+" acyclic r as n64 acyclic n63")
		n := len(text)
		refused(t, text+" let z = r", api.ErrLong, n+5)
		refused(t, text+" let rec z = r", api.ErrLong, n+9)
		refused(t, text+" let z = r and y = r", api.ErrLong, n+5)
		refused(t, text+" let z = v", api.ErrLong, n+5)
		refused(t, text+" let r = v", api.ErrTwice, n+5)
		refused(t, text+" let n0 = r", api.ErrTwice, n+5)
		refused(t, text+" let z = r and z = r", api.ErrLong, n+5)
		refused(t, text+" acyclic v let z = r", api.ErrName, n+9)
	}
	for _, begin := range []string{"let ", "let rec "} {
		text := oneLet(begin, 64)
		refused(t, text+" and z = r", api.ErrLong, len(text)+5)
		refused(t, text+" and n3 = r", api.ErrTwice, len(text)+5)
		refused(t, text+" and r = r and z = r", api.ErrTwice, len(text)+5)
		refused(t, text+" and z = r and r = r", api.ErrLong, len(text)+5)
	}
	text := manyLets(62)
	parsed(t, text+"let a = r and b = r")
	refused(t, text+"let a = r and b = r and c = r", api.ErrLong, len(text)+24)
	refused(t, text+"let a = v and b = r and c = r", api.ErrLong, len(text)+24)
	// What is known at first is not given: of that there may be more.
	var names []api.Decl
	for k := range 1000 {
		names = append(names, api.Decl{Name: "m" + strconv.Itoa(k)})
	}
	parsedOver(t, manyLets(64)+"acyclic m999 | n63", names...)
}

// 12.2, 12.3: a name that is not known, wherever one may stand.
func TestUnknownNames(t *testing.T) {
	for text, at := range map[string]int{
		"acyclic v": 8, "acyclic (v)": 9, "acyclic ((v))": 10, "acyclic [v]": 9, "acyclic v+": 8, "acyclic v*": 8, "acyclic v?": 8, "acyclic v^-1": 8,
		"acyclic v | r": 8, "acyclic r | v": 12, "acyclic r & v": 12, `acyclic r \ v`: 12, "acyclic r ; v": 12, "acyclic W * v": 12, "acyclic v * W": 8,
		"acyclic w | v": 8, "acyclic r | v | w": 12, "acyclic (r | v) ; w": 13, "acyclic V": 8, "acyclic r.": 8, "acyclic _": 8,
		"let a = v": 8, "let a = a": 8, "let a = b and b = r": 8, "let a = r and b = a": 18, "let rec a = v": 12, "let rec a = a and b = v": 22, "let rec a = r acyclic b let b = r": 22,
		"empty v": 6, "irreflexive v": 12, "acyclic r let a = v": 18, "let rec p = p let q2 = p and r2 = q2": 34,
		`let rec p = r \ v`: 16, `let rec p = v \ p`: 12, `let a = r \ a`: 12,
	} {
		refused(t, text, api.ErrName, at)
	}
	parsed(t, "let a = r let b = a and c = a let rec d = c | e and e = d ; b acyclic d | e")
}

// 12.3: a name of a `let rec` within the right part of a `\`.
func TestNamesTakenAway(t *testing.T) {
	for text, at := range map[string]int{
		`let rec p = r \ p`: 16, `let rec p = p \ p`: 16, `let rec p = r \ (p)`: 17, `let rec p = r \ ((p))`: 18, `let rec p = r \ p+`: 16, `let rec p = r \ p^-1`: 16,
		`let rec p = r \ p ; s`: 16, `let rec p = r \ s ; p`: 20, `let rec p = r \ (s | p)`: 21, `let rec p = r \ (s ; (r | p))`: 26, `let rec p = r \ (s & (r ; p+)?)`: 26,
		`let rec p = r \ (s \ p)`: 21, `let rec p = r \ (p \ s)`: 17, `let rec p = r \ s \ p`: 20, `let rec p = (r \ p) | s`: 17, `let rec p = (r | s \ p) ; r`: 21,
		`let rec p = r and o = s \ p`: 26, `let rec p = s \ o and o = r`: 16, `let rec p = p | o and o = s \ (r \ p)`: 35, `let rec p = r \ (o | p) and o = p`: 17, `let rec p = r \ (s ; p | o) and o = r`: 21,
		`let rec p = 0 \ p`: 16, `let rec p = r | r \ (0 & p)`: 25,
	} {
		refused(t, text, api.ErrMono, at)
	}
	for _, text := range []string{
		`let rec p = p \ r`, `let rec p = p \ r \ s`, `let rec p = (p | r) \ s`, `let rec p = r \ s & p`, `let rec p = r \ s | p`, `let rec p = r \ (s) & (p)`, `let rec p = (r \ s) ; p`, `let rec p = [W \ R] ; p`,
		`let rec p = r let a = s \ p`, `let rec p = r let rec o = s \ p | o`, `let rec p = r acyclic s \ p`, `let a = r let rec p = s \ a`, `let rec p = (r \ (s \ r)) ; p`,
	} {
		parsed(t, text)
	}
	// Names that are not known, and kinds, at the same place or around it.
	refused(t, `let rec p = r \ v \ p`, api.ErrName, 16)
	refused(t, `let rec p = r \ p \ v`, api.ErrMono, 16)
	refused(t, `let rec p = W \ p`, api.ErrMono, 16)
	refused(t, `let rec p = r \ (W ; p)`, api.ErrType, 17)
	refused(t, `let rec p = r \ (p ; W)`, api.ErrMono, 17)
	refused(t, `let rec p = r \ [p]`, api.ErrMono, 17)
	refused(t, `let rec p = r \ p * W`, api.ErrMono, 16)
	refused(t, `let rec p = r \ W * p`, api.ErrMono, 20)
	refused(t, `let rec p = W and o = r \ p`, api.ErrType, 12)
	refused(t, `let rec p = r \ o and o = W`, api.ErrMono, 16)
}

// 12.2, 12.3: what must be a set, a relation, what the left part is.
func TestKinds(t *testing.T) {
	for text, at := range map[string]int{
		"acyclic W": 8, "acyclic (W)": 8, "acyclic ((W))": 8, "acyclic W | R": 8, "acyclic (W) & R": 8, `acyclic W \ R`: 8, "irreflexive W": 12, "irreflexive (W | R)": 12,
		"let rec a = W": 12, "let rec a = (W)": 12, "let rec a = W & R": 12, "let rec a = r and b = W": 22, "let a = W let rec b = a": 22,
		"let q2 = r & W": 13, "empty W & r": 10, "empty W | r": 10, `empty W \ r`: 10, "empty r | W": 10, `empty r \ W`: 10, "empty r | (W)": 10, "empty W & (r)": 10, "empty W | R | r": 14, "empty W | (R | r)": 15, "empty (W) | 0": 12, "empty W & [R]": 10, "empty r & (W | R)": 10, "empty W | r+": 10, "empty W | r ; s": 10, "empty W | R * R": 10, "empty r | W * R | W": 18,
		"empty W ; r": 6, "empty r ; W": 10, "empty W ; R": 6, "empty (W) ; r": 6, "empty r ; (W)": 10, "empty r ; (W | R)": 10, "empty (W | R) ; r": 6, "empty r ; s ; W": 14, "empty r ; W ; s": 10, "empty r ; [W] ; W": 16,
		"empty r * W": 6, "empty W * r": 10, "empty r * s": 6, "empty (r) * W": 6, "empty W * (r)": 10, "empty W * 0": 10, "empty 0 * W": 6, "empty W * [R]": 10, "empty W * R+": 10, "empty W+ * R": 6, "empty (W * R) * W": 6,
		"empty W+": 6, "empty W*": 6, "empty W?": 6, "empty W^-1": 6, "empty (W)+": 6, "empty ((W | R))*": 6, "empty r | W+": 10, "empty W+*": 6,
		"empty [r]": 7, "empty [(r)]": 7, "empty [0]": 7, "empty [[W]]": 7, "empty [W | r]": 11, "empty [r ; s]": 7, "empty [(r ; s)]": 7, "empty [W * R]": 7, "empty r ; [s]": 11,
		"let rec a = a & W": 16, "let rec a = W & a": 16, "let rec a = [a]": 13, "let rec a = a * W": 12, "let a = W acyclic a": 18, "let a = r empty [a]": 17, "let a = W let b = r | a": 22, "let a = W and b = r empty b | a": 30,
	} {
		refused(t, text, api.ErrType, at)
	}
	parsed(t, `empty W empty (W | R) & W \ R empty r let a = (W) let b = [a] ; (r) let c = a * a & b empty a | W empty c | r irreflexive b+ acyclic (c)`)
}

// 12.3: of two faults in one expression: parts go ahead of what they are parts
// of, the left one first.
func TestOrderOfFaults(t *testing.T) {
	for _, x := range []struct {
		text string
		e    api.Errno
		at   int
	}{
		{"empty v | w", api.ErrName, 6}, {"empty v | W & r", api.ErrName, 6}, {"empty W & r | v", api.ErrType, 10}, {"empty (W & r) ; v", api.ErrType, 11},
		{"empty W | v", api.ErrName, 10}, {"empty W & (r | v)", api.ErrName, 15}, {"empty W & (r | R)", api.ErrType, 15},
		{"empty (r ; v) | W", api.ErrName, 11}, {"empty [r ; W]", api.ErrType, 11}, {"empty [r ; W] | v", api.ErrType, 11}, {"empty [r] | v", api.ErrType, 7},
		{"empty W ; v", api.ErrType, 6}, {"empty r * v", api.ErrType, 6}, {"empty (W | R) ; (r | v)", api.ErrType, 6}, {"empty W+ ; v", api.ErrType, 6}, {"empty v ; W", api.ErrName, 6}, {"empty r * s", api.ErrType, 6},
		{"empty r ; W ; v", api.ErrType, 10}, {"empty r | s ; W | v", api.ErrType, 14}, {"empty r | v ; W", api.ErrName, 10}, {"empty W | r ; v", api.ErrName, 14},
		{"acyclic W | v", api.ErrName, 12}, {"acyclic W | r", api.ErrType, 12}, {"acyclic W & R", api.ErrType, 8},
		{"let a = v and b = w", api.ErrName, 8}, {"let a = W ; r and b = v", api.ErrType, 8}, {"let a = r and b = v and c = W ; r", api.ErrName, 18},
		{"let rec a = W and b = v", api.ErrType, 12}, {"let rec a = v and b = W", api.ErrName, 12}, {"let rec a = W | v", api.ErrName, 16},
		{"acyclic r ; v acyclic W", api.ErrName, 12}, {"acyclic W acyclic v", api.ErrType, 8}, {"acyclic r let a = v let a = W", api.ErrName, 18},
	} {
		refused(t, x.text, x.e, x.at)
		agrees(t, x.text)
	}
}
