package cat_test

import (
	"strings"
	"testing"

	"belated/api"
	"belated/cat"
	"belated/rel"
)

// 12.2: what each operator stands for, written out.
func TestOperators(t *testing.T) {
	r, s := of(0, 1, 1, 2), of(1, 2, 2, 0)
	bs := []api.Bound{bindRel("r", r), bindRel("s", s), bindSet("W", 0b011), bindSet("R", 0b110)}
	for text, want := range map[string]api.Rel{
		"r": r, "0": of(), "(r)": r, "r | s": of(0, 1, 1, 2, 2, 0), "r & s": of(1, 2), `r \ s`: of(0, 1), `s \ r`: of(2, 0), "r ; s": of(0, 2, 1, 0), "s ; r": of(2, 1),
		"r+": of(0, 1, 0, 2, 1, 2), "r*": of(0, 0, 0, 1, 0, 2, 1, 1, 1, 2, 2, 2), "r?": of(0, 0, 0, 1, 1, 1, 1, 2, 2, 2), "r^-1": of(1, 0, 2, 1), "0+": of(), "0*": of(0, 0, 1, 1, 2, 2), "0?": of(0, 0, 1, 1, 2, 2), "0^-1": of(),
		"W * R": of(0, 1, 0, 2, 1, 1, 1, 2), "R * W": of(1, 0, 1, 1, 2, 0, 2, 1), "[W]": of(0, 0, 1, 1), "[R]": of(1, 1, 2, 2), "[W | R]": of(0, 0, 1, 1, 2, 2), "[W & R]": of(1, 1), `[W \ R]`: of(0, 0), `[R \ W]`: of(2, 2),
		"[W] ; r ; [R]": of(0, 1, 1, 2), "r ; 0": of(), "r | 0": r, "r & 0": of(), `r \ 0`: r, `0 \ r`: of(),
	} {
		isRel(t, text, want, 0b111, bs...)
	}
	for text, want := range map[string]api.Set{"W": 3, "(W)": 3, "W | R": 7, "W & R": 2, `W \ R`: 1, `R \ W`: 4, `(W | R) \ W`: 4, `W | R \ W`: 7, `W \ (R \ W)`: 3, `W & R | R`: 6, `W \ R \ W`: 0} {
		isSet(t, text, want, bs...)
	}
}

// 12.2: of the events u, whichever these are: what is bound is not cut to them.
func TestEventsOfU(t *testing.T) {
	r := of(3, 4, 31, 30)
	bs := []api.Bound{bindRel("r", r), bindSet("W", 0xffffffff)}
	for _, u := range []api.Set{0, 1, 1 << 31, 1<<31 | 5, 0xffffffff} {
		isRel(t, "r?", rel.Maybe(u, r), u, bs...)
		isRel(t, "r*", rel.Star(u, r), u, bs...)
		isRel(t, "0*", rel.Id(u), u, bs...)
		isRel(t, "r ; 0?", rel.Seq(r, rel.Id(u)), u, bs...)
		isRel(t, "r+", r, u, bs...)
		isRel(t, "[W]", rel.Id(0xffffffff), u, bs...)
		isRel(t, "W * W", rel.Cross(0xffffffff, 0xffffffff), u, bs...)
		isRel(t, "r^-1", of(4, 3, 30, 31), u, bs...)
	}
}

// behinds are the operators behind one, and what they come to.
var behinds = []struct {
	mark string
	do   func(u api.Set, r api.Rel) api.Rel
}{
	{"+", func(_ api.Set, r api.Rel) api.Rel { return rel.Plus(r) }}, {"*", rel.Star}, {"?", rel.Maybe}, {"^-1", func(_ api.Set, r api.Rel) api.Rel { return rel.Inverse(r) }},
}

// 12.1, 12.2: operators behind one, any number of them, from the left.
func TestOperatorsBehind(t *testing.T) {
	d := dice(1221)
	for range 40 {
		r, u := d.relation(), d.set()
		b := bindRel("r", r)
		for _, x := range behinds {
			isRel(t, "r"+x.mark, x.do(u, r), u, b)
			for _, y := range behinds {
				two := y.do(u, x.do(u, r))
				isRel(t, "r"+x.mark+y.mark, two, u, b)
				isRel(t, "(r"+x.mark+")"+y.mark, two, u, b)
				isRel(t, "r "+x.mark+" "+y.mark+" ^ - 1", rel.Inverse(two), u, b)
			}
		}
	}
	isRel(t, "r"+strings.Repeat("^-1", 301), of(1, 0), 0, bindRel("r", of(0, 1)))
	isRel(t, "r"+strings.Repeat("+*?", 301), of(0, 1, 2, 2), 4, bindRel("r", of(0, 1)))
}

// betweens are the operators between two relations, what they come to, and how
// much they bind.
var betweens = []struct {
	mark string
	do   func(a, b api.Rel) api.Rel
	more int
}{
	{"|", func(a, b api.Rel) api.Rel { return rel.Union(a, b) }, 1}, {"&", func(a, b api.Rel) api.Rel { return rel.Meet(a, b) }, 2}, {`\`, rel.Minus, 2}, {";", func(a, b api.Rel) api.Rel { return rel.Seq(a, b) }, 3},
}

// 12.1: each pair of operators side by side, with and without brackets.
func TestPairsOfOperators(t *testing.T) {
	d, apart := dice(1222), map[string]int{}
	for range 60 {
		r, s, q := d.relation(), d.relation(), d.relation()
		bs := []api.Bound{bindRel("r", r), bindRel("s", s), bindRel("q", q)}
		for _, x := range betweens {
			for _, y := range betweens {
				left, right := y.do(x.do(r, s), q), x.do(r, y.do(s, q))
				want := left
				if y.more > x.more {
					want = right
				}
				isRel(t, "r "+x.mark+" s "+y.mark+" q", want, 0, bs...)
				isRel(t, "(r "+x.mark+" s) "+y.mark+" q", left, 0, bs...)
				isRel(t, "r "+x.mark+" (s "+y.mark+" q)", right, 0, bs...)
				isRel(t, "((r)"+x.mark+"(s))"+y.mark+"(q)", left, 0, bs...)
				if left != right {
					apart[x.mark+y.mark]++
				}
			}
			for _, y := range behinds {
				isRel(t, "r "+x.mark+" s"+y.mark, x.do(r, y.do(9, s)), 9, bs...)
				isRel(t, "r"+y.mark+" "+x.mark+" s", x.do(y.do(9, r), s), 9, bs...)
				isRel(t, "(r "+x.mark+" s)"+y.mark, y.do(9, x.do(r, s)), 9, bs...)
			}
		}
	}
	for _, pair := range []string{"|&", `|\`, "|;", "&|", "&;", `\|`, `\&`, `\\`, `\;`, ";|", ";&", `;\`} {
		if apart[pair] == 0 {
			t.Errorf("the brackets of %s turn nothing here", pair)
		}
	}
}

// 12.1: a product binds more than all others between two, less than those
// behind one.
func TestProducts(t *testing.T) {
	d := dice(1223)
	for range 60 {
		r, w, v := d.relation(), d.set(), d.set()
		bs := []api.Bound{bindRel("r", r), bindSet("W", w), bindSet("R", v)}
		cross := rel.Cross(w, v)
		for _, x := range betweens {
			isRel(t, "W * R "+x.mark+" r", x.do(cross, r), 0, bs...)
			isRel(t, "r "+x.mark+" W * R", x.do(r, cross), 0, bs...)
			isRel(t, "W * R "+x.mark+" W * R", x.do(cross, cross), 0, bs...)
			isRel(t, "(W * R) "+x.mark+" r", x.do(cross, r), 0, bs...)
		}
		for _, y := range behinds {
			isRel(t, "(W * R)"+y.mark, y.do(9, cross), 9, bs...)
			refused(t, "empty W * R"+y.mark, api.ErrType, 10)
		}
		isRel(t, "(W | R) * (W & R)", rel.Cross(w|v, w&v), 0, bs...)
		isRel(t, `(W \ R) * (R \ W)`, rel.Cross(w&^v, v&^w), 0, bs...)
		isSet(t, `W | R & W \ R`, w|v&w&^v, bs...)
		isSet(t, `(W | R) & W \ R`, (w|v)&w&^v, bs...)
	}
	for _, mark := range []string{"|", "&", `\`} {
		refused(t, "empty W "+mark+" R * R", api.ErrType, 10)
		refused(t, "empty R * R "+mark+" W", api.ErrType, 14)
		isRel(t, "(W "+mark+" R) * R", of(), 0)
	}
}

// 12.2: a `let` names what its expressions stand for, from the next statement
// on; one name may use another.
func TestLets(t *testing.T) {
	bs := []api.Bound{bindRel("r", of(0, 1)), bindRel("s", of(1, 2)), bindSet("W", 3), bindSet("R", 6)}
	m := parsed(t, `let a = r ; s and b = W & R let c = a | r let d = [b] ; c and e = b \ W let f = d ; c^-1 let g = e | W`)
	for name, want := range map[string]api.Bound{
		"a": bindRel("a", of(0, 2)), "b": bindSet("b", 2), "c": bindRel("c", of(0, 1, 0, 2)), "d": bindRel("d", of()), "e": bindSet("e", 0), "f": bindRel("f", of()), "g": bindSet("g", 3),
		"r": bs[0], "s": bs[1], "W": bs[2], "R": bs[3], "q": bindRel("q", of()),
	} {
		if b, e := m.Value(name, 7, bs...); b != want || e != api.OK {
			t.Errorf("12.2: %s is %v, %d", name, b, e)
		}
	}
	// What is bound to a name that is given, or to one that is not known, does
	// not count.
	bs = append(bs, bindRel("a", of(9, 9)), bindRel("c", of(9, 9)), bindSet("b", 1<<9), bindSet("a", 1<<9), bindRel("zz", of(9, 9)))
	for name, want := range map[string]api.Bound{"a": bindRel("a", of(0, 2)), "b": bindSet("b", 2), "c": bindRel("c", of(0, 1, 0, 2))} {
		if b, e := m.Value(name, 7, bs...); b != want || e != api.OK {
			t.Errorf("12.2: %s is %v, %d", name, b, e)
		}
	}
	if b, e := parsed(t, "let rec p = p").Value("p", 7, bindRel("p", of(1, 2))); b != bindRel("p", of()) || e != api.OK {
		t.Errorf("12.2: p begins with %v, %d", b, e)
	}
}

// 12.2: `let rec`, of one name and of several, written out.
func TestRecs(t *testing.T) {
	r, s := of(0, 1, 1, 2, 2, 3), of(3, 4)
	bs := []api.Bound{bindRel("r", r), bindRel("s", s), bindSet("W", 0b101)}
	for text, want := range map[string]api.Rel{
		"let rec p = r & s ; p": of(), "let rec p = p": of(), "let rec p = 0": of(), "let rec p = r": r, "let rec p = p | p ; p": of(), "let rec p = p+ & r": of(), "let rec p = s ; p | p ; s": of(),
		"let rec p = r | r ; p": rel.Plus(r), "let rec p = r | p ; r": rel.Plus(r), "let rec p = r | p ; p": rel.Plus(r), "let rec p = r ; p | r": rel.Plus(r), "let rec p = (r | p)+": rel.Plus(r), "let rec p = (r | s) ; p | s": of(3, 4, 2, 4, 1, 4, 0, 4),
		"let rec p = p^-1 | s": of(3, 4, 4, 3), "let rec p = p^-1 ; p | s": of(3, 4, 4, 4), "let rec p = p? & r": of(), `let rec p = p \ s | r | s`: of(0, 1, 1, 2, 2, 3, 3, 4), `let rec p = r \ s | p ; r`: rel.Plus(r), "let rec p = [W] ; r | p ; r": of(0, 1, 0, 2, 0, 3, 2, 3),
		"let rec p = r ; q1 | r and q1 = p ; r": of(0, 1, 1, 2, 2, 3, 0, 3), "let rec q1 = r^-1 and p = q1 | p ; q1": rel.Plus(rel.Inverse(r)), "let rec p = q1 and q1 = p": of(), "let rec p = q1 and q1 = p | s": s,
		"let rec p = a ; b and a = r | b and b = s | c and c = a & r": of(0, 2, 1, 3, 2, 4),
		"let a = r let rec p = a | p ; b and b = a":                   rel.Plus(r), "let rec a = r | a ; r let rec p = a ; s | p": of(0, 4, 1, 4, 2, 4), "let rec p = W * W ; r | p ; r": of(0, 1, 2, 1, 0, 3, 2, 3, 0, 2, 2, 2),
	} {
		if b, e := parsed(t, text).Value("p", 0, bs...); b != bindRel("p", want) || e != api.OK {
			t.Errorf("12.2: %s: %v, %d, want %v", text, rel.Pairs(b.R), e, rel.Pairs(want))
		}
	}
	// Of the events u, what a `*` or `?` in it adds.
	for _, u := range []api.Set{0, 1, 1 << 31, 0xffffffff} {
		if b, _ := parsed(t, "let rec p = p*").Value("p", u, bs...); b.R != rel.Id(u) {
			t.Errorf("12.2: %v", rel.Pairs(b.R))
		}
		if b, _ := parsed(t, "let rec p = r ; p?").Value("p", u, bs...); b.R != leastOf(u, r) {
			t.Errorf("12.2: %v, want %v", rel.Pairs(b.R), rel.Pairs(leastOf(u, r)))
		}
	}
}

// leastOf is the least p that is r ; p?.
func leastOf(u api.Set, r api.Rel) api.Rel {
	var p api.Rel
	for {
		next := rel.Seq(r, rel.Maybe(u, p))
		if next == p {
			return p
		}
		p = next
	}
}

// equations are what a `let rec` of p and o may say, and what that comes to.
var equations = []struct {
	text string
	do   func(r, s, p, o api.Rel) api.Rel
}{
	{"p", func(_, _, p, _ api.Rel) api.Rel { return p }},
	{"o", func(_, _, _, o api.Rel) api.Rel { return o }},
	{"r | p ; o", func(r, _, p, o api.Rel) api.Rel { return rel.Union(r, rel.Seq(p, o)) }},
	{"r ; o | s", func(r, s, _, o api.Rel) api.Rel { return rel.Union(rel.Seq(r, o), s) }},
	{"p & o | r", func(r, _, p, o api.Rel) api.Rel { return rel.Union(rel.Meet(p, o), r) }},
	{`(p | o) \ r`, func(r, _, p, o api.Rel) api.Rel { return rel.Minus(rel.Union(p, o), r) }},
	{`o^-1 \ s | r`, func(r, s, _, o api.Rel) api.Rel { return rel.Union(rel.Minus(rel.Inverse(o), s), r) }},
	{`r \ s | p+`, func(r, s, p, _ api.Rel) api.Rel { return rel.Union(rel.Minus(r, s), rel.Plus(p)) }},
	{"p* & (r | o)", func(r, _, p, o api.Rel) api.Rel { return rel.Meet(rel.Star(3, p), rel.Union(r, o)) }},
	{"o? ; r", func(r, _, _, o api.Rel) api.Rel { return rel.Seq(rel.Maybe(3, o), r) }},
}

// small is a relation of the events 0 and 1, by number.
func small(n int) api.Rel {
	return api.Rel{api.Set(n & 3), api.Set(n >> 2)}
}

// 12.2, 12.5: of all relations with which the equations hold, those that are
// told are the least: gone through whole, over two events.
func TestRecsAreTheLeast(t *testing.T) {
	for _, x := range equations {
		for _, y := range equations {
			m := parsed(t, "let rec p = "+x.text+" and o = "+y.text)
			for k := range 256 {
				r, s := small(k&15), small(k>>4)
				bs := []api.Bound{bindRel("r", r), bindRel("s", s)}
				p, _ := m.Value("p", 3, bs...)
				o, _ := m.Value("o", 3, bs...)
				if x.do(r, s, p.R, o.R) != p.R || y.do(r, s, p.R, o.R) != o.R {
					t.Fatalf("12.2: p = %s, o = %s: they do not hold of %v, %v", x.text, y.text, p.R[:2], o.R[:2])
				}
				for n := range 256 {
					a, b := small(n&15), small(n>>4)
					holds := x.do(r, s, a, b) == a && y.do(r, s, a, b) == b
					if holds && (rel.Union(p.R, a) != a || rel.Union(o.R, b) != b) {
						t.Fatalf("12.2: p = %s, o = %s: %v, %v are less than %v, %v", x.text, y.text, a[:2], b[:2], p.R[:2], o.R[:2])
					}
				}
			}
		}
	}
}

// 12.5: what the equations, begun with nothing, come to when they are applied
// on and on: as models of their own without `rec`.
func TestRecsAreAppliedOnAndOn(t *testing.T) {
	d := dice(1225)
	once := func(text string, bs ...api.Bound) api.Rel {
		m, e, at := cat.Parse("let it = "+text, api.Decl{Name: "r"}, api.Decl{Name: "s"}, api.Decl{Name: "p"}, api.Decl{Name: "o"})
		if e != api.OK {
			t.Fatalf("%q: %d at %d", text, e, at)
		}
		b, _ := m.Value("it", 31, bs...)
		return b.R
	}
	for range 3 {
		for _, x := range equations {
			for _, y := range equations {
				bs := []api.Bound{bindRel("r", d.relation()), bindRel("s", d.relation()), bindRel("p", of()), bindRel("o", of())}
				for {
					p, o := once(x.text, bs...), once(y.text, bs...)
					if p == bs[2].R && o == bs[3].R {
						break
					}
					bs[2].R, bs[3].R = p, o
				}
				m := parsed(t, "let rec p = "+x.text+" and o = "+y.text)
				for _, want := range bs[2:] {
					if b, e := m.Value(want.Name, 31, bs[:2]...); b != want || e != api.OK {
						t.Fatalf("12.5: p = %s, o = %s: %s is %v, want %v", x.text, y.text, want.Name, rel.Pairs(b.R), rel.Pairs(want.R))
					}
				}
			}
		}
	}
}

// 12.2: all pairs of all events, one by one, through many names.
func TestLongRecs(t *testing.T) {
	next := make([]int, 0, 64)
	for e := range 31 {
		next = append(next, e, e+1)
	}
	bs := []api.Bound{bindRel("r", of(next...)), bindRel("s", of(0, 0))}
	var names []string
	for _, a := range "abcdefgh" {
		for _, b := range "abcdefgh" {
			names = append(names, string(a)+string(b))
		}
	}
	text := "let rec "
	for n, name := range names[:63] {
		text += name + " = " + names[n+1] + " and "
	}
	m := parsed(t, text+names[63]+" = s | aa ; r | r^-1 ; aa")
	want := rel.Cross(0xffffffff, 0xffffffff)
	for _, name := range []string{"aa", "dd", "hh"} {
		if b, e := m.Value(name, 0, bs...); b != bindRel(name, want) || e != api.OK {
			t.Errorf("12.2: %s has %d pairs, %d", name, rel.Count(b.R), e)
		}
	}
}
