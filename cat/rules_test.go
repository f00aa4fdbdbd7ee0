package cat_test

import (
	"fmt"
	"slices"
	"strconv"
	"strings"
	"testing"

	"belated/api"
	"belated/cat"
)

// The chapter's table of examples.
func TestExamples(t *testing.T) {
	m := parsed(t, "let t = r ; s+ acyclic t & r as good")
	if !slices.Equal(m.Lets(), []api.Decl{{Name: "t"}}) || !slices.Equal(m.Checks(), []string{"good"}) {
		t.Errorf("12.4: %v, %q", m.Lets(), m.Checks())
	}
	bs := []api.Bound{bindRel("r", of(0, 1, 1, 2)), bindRel("s", of(0, 1, 1, 2))}
	if b, e := parsed(t, "let rec p = r & s ; p").Value("p", 7, bs...); b != bindRel("p", of()) || e != api.OK {
		t.Errorf("12.2: %v, %d", b, e)
	}
	if b, e := parsed(t, "let rec p = r | s ; p").Value("p", 7, bs...); b != bindRel("p", of(0, 1, 1, 2, 0, 2)) || e != api.OK {
		t.Errorf("12.2: %v, %d", b, e)
	}
	refused(t, "acyclic W", api.ErrType, 8)
	refused(t, "let p = r & W", api.ErrType, 12)
	refused(t, "let r = s", api.ErrTwice, 4)
	refused(t, "acyclic v", api.ErrName, 8)
	refused(t, `let rec p = r \ p`, api.ErrMono, 16)
	refused(t, "let a =", api.ErrEnd, 7)
	refused(t, "let a = r r", api.ErrForm, 10)
}

// A model as the next chapter writes one.
func TestWholeModel(t *testing.T) {
	text := `let rfx = rf \ po
let mem = [M] ; po ; [M] (* memory operations of one thread *)
let ppo = (mem \ (W * R)) | [X] ; mem | mem ; [X]
let fence = [M] ; po ; [F] ; po ; [M]
acyclic ppo | fence | rfx | co | fr as order
irreflexive fr ; po as local
`
	var names []api.Decl
	for _, name := range strings.Fields("M R W X F") {
		names = append(names, api.Decl{Name: name, Set: true})
	}
	for _, name := range strings.Fields("po rf co fr") {
		names = append(names, api.Decl{Name: name})
	}
	m := parsedOver(t, text, names...)
	// Store buffering: 0 writes x, 1 reads y; 2 writes y, 3 reads x.
	bs := []api.Bound{bindSet("M", 15), bindSet("W", 5), bindSet("R", 10), bindRel("po", of(0, 1, 2, 3)), bindRel("fr", of(1, 2, 3, 0))}
	if holds, name := m.Holds(15, bs...); !holds || name != "" {
		t.Errorf("12.4: %v, %q", holds, name)
	}
	// The same with fences 4 and 5 between.
	bs = []api.Bound{bindSet("M", 15), bindSet("W", 5), bindSet("R", 10), bindSet("F", 48), bindRel("po", of(0, 4, 4, 1, 0, 1, 2, 5, 5, 3, 2, 3)), bindRel("fr", of(1, 2, 3, 0))}
	if holds, name := m.Holds(63, bs...); holds || name != "order" {
		t.Errorf("12.4: %v, %q", holds, name)
	}
	// 0 writes x, 1 reads x as it was at first.
	bs = []api.Bound{bindSet("M", 3), bindSet("W", 1), bindSet("R", 2), bindRel("po", of(0, 1)), bindRel("fr", of(1, 0))}
	if holds, name := m.Holds(3, bs...); holds || name != "local" {
		t.Errorf("12.4: %v, %q", holds, name)
	}
}

// bracketed is an expression with brackets around each part, and sometimes
// around these again. Its words are those that read cut it into.
func (d *dice) bracketed(words []api.Token) string {
	var done []string
	var waits []api.Token
	push := func(text string) { done = append(done, among(d, "("+text+")", "("+text+")", "(("+text+"))")) }
	reduce := func(least int) {
		for len(waits) > 0 && binds(waits[len(waits)-1].Text) >= least {
			n, mark := len(done), strings.Replace(waits[len(waits)-1].Text, "times", "*", 1)
			text := done[n-2] + mark + done[n-1]
			done, waits = done[:n-2], waits[:len(waits)-1]
			push(text)
		}
	}
	for _, w := range words {
		switch {
		case isNAME(w) || w.Kind == api.TokNumber && w.N == 0:
			push(w.Text)
		case is(w, "(", "["):
			waits = append(waits, w)
		case is(w, ")", "]"):
			reduce(1)
			text := waits[len(waits)-1].Text + done[len(done)-1] + w.Text
			done, waits = done[:len(done)-1], waits[:len(waits)-1]
			push(text)
		case binds(w.Text) > 0:
			reduce(binds(w.Text))
			waits = append(waits, w)
		case is(w, "+", "*", "?", "^"):
			text := done[len(done)-1] + strings.Replace(w.Text, "^", "^-1", 1)
			done = done[:len(done)-1]
			push(text)
		}
	}
	reduce(1)
	return done[0]
}

// around is a model with brackets around each part of its expressions.
func (d *dice) around(m *model) string {
	var out []string
	checks := slices.Clone(m.checks)
	for _, l := range m.lines {
		if len(l.names) == 0 {
			out = append(out, l.what, d.bracketed(l.exprs[0]))
			if checks[0] != "" {
				out = append(out, "as", checks[0])
			}
			checks = checks[1:]
			continue
		}
		begin := strings.Replace("let "+l.what, "let let", "let", 1)
		for n, name := range l.names {
			out = append(out, begin, name.Text, "=", d.bracketed(l.exprs[n]))
			begin = "and"
		}
	}
	return strings.Join(out, " ")
}

// 12.5: brackets around a part turn nothing.
func TestBracketsTurnNothing(t *testing.T) {
	d, many := dice(1251), 0
	for range 4000 {
		text := strings.Join(d.model(), " ")
		plain, e, _ := cat.Parse(text, known()...)
		if e != api.OK {
			continue
		}
		around := d.around(read(text, known()...))
		other, e, at := cat.Parse(around, known()...)
		if e == api.ErrLong { // more than MaxDepth of them
			continue
		}
		if e != api.OK {
			t.Fatalf("12.5: %q is a model, %q is not: %d at %d", text, around, e, at)
		}
		many++
		bs, u := d.bindings(), d.set()
		holds, name := plain.Holds(u, bs...)
		if otherHolds, otherName := other.Holds(u, bs...); otherHolds != holds || otherName != name {
			t.Fatalf("12.5: %q: %v, %q; %q: %v, %q", text, holds, name, around, otherHolds, otherName)
		}
		if !slices.Equal(plain.Lets(), other.Lets()) || !slices.Equal(plain.Checks(), other.Checks()) {
			t.Fatalf("12.5: %q: %v, %v", around, other.Lets(), other.Checks())
		}
		for _, d := range plain.Lets() {
			a, _ := plain.Value(d.Name, u, bs...)
			if b, _ := other.Value(d.Name, u, bs...); a != b {
				t.Fatalf("12.5: %s of %q is %v, of %q %v", d.Name, text, a, around, b)
			}
		}
	}
	if many < 1500 {
		t.Errorf("only %d models", many)
	}
}

// 12.5: a model with more checks holds of no more.
func TestMoreChecksHoldOfNoMore(t *testing.T) {
	d := dice(1252)
	seen := map[[2]bool]int{}
	for range 4000 {
		less := strings.Join(d.model(), " ")
		more := less + " " + among(&d, "acyclic r | s as more", "irreflexive r as more", "empty W & R as more", "empty r ; s as more")
		a, e, _ := cat.Parse(less, known()...)
		b, f, _ := cat.Parse(more, known()...)
		if (e == api.OK) != (f == api.OK) {
			t.Fatalf("12.5: %q: %d, %q: %d", less, e, more, f)
		}
		if e != api.OK {
			continue
		}
		bs, u := d.bindings(), d.set()
		holds, name := a.Holds(u, bs...)
		otherHolds, otherName := b.Holds(u, bs...)
		seen[[2]bool{holds, otherHolds}]++
		if otherHolds && !holds || !holds && name != otherName || holds && !otherHolds && otherName != "more" {
			t.Fatalf("12.5: %q: %v, %q; %q: %v, %q", less, holds, name, more, otherHolds, otherName)
		}
	}
	if seen[[2]bool{true, true}] == 0 || seen[[2]bool{true, false}] == 0 || seen[[2]bool{false, false}] == 0 {
		t.Errorf("not all cases came: %v", seen)
	}
}

// roomy is a list with room behind it that holds something.
func roomy[T any](list []T, behind T) (part, whole []T) {
	whole = append(slices.Clone(list), behind, behind, behind)
	return whole[:len(list)], whole
}

func wipe[T any](list []T, with T) {
	list = list[:cap(list)]
	for n := range list {
		list[n] = with
	}
}

const someModel = "let a = r ; s and b = W | R let rec c = a | c ; r empty [b] ; c as good acyclic c as bad"

// R3: names and bindings stay as they were, and the room behind them; none of
// them is kept.
func TestKeepsArguments(t *testing.T) {
	names, allNames := roomy(known(), api.Decl{Name: "v"})
	bs, allBs := roomy([]api.Bound{bindRel("r", of(0, 1, 1, 0)), bindRel("s", of(1, 2)), bindSet("W", 8), bindSet("W", 1), bindRel("r", of(5, 5))}, bindRel("q", of(7, 7)))
	oldNames, oldBs := slices.Clone(allNames), slices.Clone(allBs)
	m := parsedOver(t, someModel, names...)
	tell := func() string {
		holds, name := m.Holds(7, bs...)
		c, e := m.Value("c", 7, bs...)
		q, f := m.Value("q", 7, bs...)
		return fmt.Sprint(m.Checks(), m.Lets(), holds, name, c, e, q, f)
	}
	first := tell()
	if !slices.Equal(allNames, oldNames) || !slices.Equal(allBs, oldBs) {
		t.Error("R3: a list that was handed in was turned")
	}
	if _, e, at := cat.Parse("acyclic v", names...); e != api.ErrName || at != 8 {
		t.Errorf("R3: what lies behind the names is looked at: %d at %d", e, at)
	}
	wipe(allNames, api.Decl{Name: "x", Set: true})
	if second := tell(); second != first {
		t.Errorf("R3: the names are kept: %s, then %s", first, second)
	}
	kept := slices.Clone(bs)
	wipe(allBs, bindRel("r", of(3, 3)))
	tell()
	bs = kept
	if third := tell(); third != first {
		t.Errorf("R1: bindings are kept: %s, then %s", first, third)
	}
}

// R3: what is answered is new memory, and the room behind it.
func TestAnswersAreNew(t *testing.T) {
	m := parsed(t, someModel)
	checks, lets := m.Checks(), m.Lets()
	otherChecks, otherLets := m.Checks(), m.Lets()
	keptChecks, keptLets := slices.Clone(checks), slices.Clone(lets)
	wipe(checks, "wiped")
	wipe(lets, api.Decl{Name: "wiped", Set: true})
	if !slices.Equal(otherChecks, keptChecks) || !slices.Equal(otherLets, keptLets) || !slices.Equal(m.Checks(), keptChecks) || !slices.Equal(m.Lets(), keptLets) {
		t.Errorf("R3: %q, %v, then %q, %v", otherChecks, otherLets, m.Checks(), m.Lets())
	}
	if b, e := m.Value("b", 0, bindSet("W", 3)); b != bindSet("b", 3) || e != api.OK {
		t.Errorf("R3: %v, %d", b, e)
	}
}

// R1, R9: a model that was asked answers the same again, whatever it was asked
// between, and so does another one of the same text.
func TestAnswersTheSameAgain(t *testing.T) {
	d := dice(1253)
	for range 1500 {
		text := strings.Join(d.model(), " ")
		m, e, at := cat.Parse(text, known()...)
		other, f, otherAt := cat.Parse(text, known()...)
		if e != f || at != otherAt {
			t.Fatalf("R1: %q: %d at %d, then %d at %d", text, e, at, f, otherAt)
		}
		if e != api.OK {
			continue
		}
		u, bs := d.set(), d.bindings()
		tell := func(m *cat.Model) string {
			holds, name := m.Holds(u, bs...)
			out := fmt.Sprint(holds, name, m.Checks(), m.Lets())
			for _, d := range append(m.Lets(), known()...) {
				b, e := m.Value(d.Name, u, bs...)
				out += fmt.Sprint(b, e)
			}
			return out
		}
		first := tell(m)
		for range 2 {
			bs := d.bindings()
			m.Holds(d.set(), bs...)
			for _, d := range m.Lets() {
				m.Value(d.Name, 31, bs...)
			}
		}
		if second, third := tell(m), tell(other); first != second || first != third {
			t.Fatalf("R1: %q: %s, then %s, of another one %s", text, first, second, third)
		}
	}
}

// R6: any text at all: it is a model, or refused at a place in it.
func TestAnyText(t *testing.T) {
	d := dice(1254)
	pieces := append(slices.Clone(vocabulary), " ", " ", "\n", "(*", "*)", "(* x *)", "{", "}", "$", "#", "é", "\x00", "\xff", "@", "12a", "0x", "99999999999999999999", "a.b", "_", "let a =", "let rec p =", "acyclic ", "^-1", strings.Repeat("(", 33))
	for range 60000 {
		var b strings.Builder
		for range d.below(14) {
			b.WriteString(among(&d, pieces...))
			b.WriteString(among(&d, "", "", " "))
		}
		text := b.String()
		m, e, at := cat.Parse(text, known()...)
		if at < 0 || at > len(text) || (m == nil) != (e != api.OK) || e == api.OK && at != 0 {
			t.Fatalf("12.3: Parse(%q): %d at %d", text, e, at)
		}
		agrees(t, text)
		if m != nil {
			m.Holds(d.set(), d.bindings()...)
		}
	}
	for n := range 256 {
		for _, ahead := range []string{"", "acyclic ", "let a = ", "acyclic r", "acyclic r ", "acyclic (r", "let rec p = r \\"} {
			agrees(t, ahead+string([]byte{byte(n)}))
			agrees(t, ahead+string([]byte{byte(n)})+" W")
		}
	}
}

// R6: names and bindings with any words in them.
func TestAnyNames(t *testing.T) {
	d := dice(1255)
	words := []string{"", " ", "let", "rec", "as", "0", "1", "(", "*", "r", "s", "W", "a", "p", "é", "\x00", "r ", "a.b", strings.Repeat("n", 5000)}
	for range 20000 {
		var names []api.Decl
		for range d.below(12) {
			names = append(names, api.Decl{Name: among(&d, words...), Set: d.below(2) == 0})
		}
		var bs []api.Bound
		for range d.below(12) {
			bs = append(bs, api.Bound{Name: among(&d, words...), Set: d.below(2) == 0, S: d.set(), R: d.relation()})
		}
		text := among(&d, "", "acyclic r", "let a = r let rec p = a | p ; r", "empty r as a let p = r", strings.Join(d.model(), " "))
		m, e, at := cat.Parse(text, names...)
		want := read(text, names...)
		if e != want.e || at != want.at {
			t.Fatalf("12.3: Parse(%q, %v): %d at %d, want %d at %d", text, names, e, at, want.e, want.at)
		}
		if e == api.OK {
			sameAnswers(t, m, want, d.set(), bs)
		}
		for _, word := range words {
			_, known := want.known[word]
			if b, e := m.Value(word, 7, bs...); (e == api.OK) != (known && m != nil) || e != api.OK && (e != api.ErrName || b != (api.Bound{})) {
				t.Fatalf("12.4: Value(%q) = %v, %d", word, b, e)
			}
		}
	}
}

// R8: each ends, however much is given.
func TestEnds(t *testing.T) {
	const long = 100000
	names, bs := make([]api.Decl, long), make([]api.Bound, long)
	for n := range long {
		names[n] = api.Decl{Name: "n" + strconv.Itoa(n)}
		bs[n] = bindRel("n"+strconv.Itoa(long-1-n), of(n%32, (n+1)%32))
	}
	m := parsedOver(t, "let a = n0 | n99999 let rec p = a | p ; n5", names...)
	if b, e := m.Value("a", 0, bs...); b != bindRel("a", of(31, 0, 0, 1)) || e != api.OK {
		t.Errorf("12.4: %v, %d", b, e)
	}
	if _, e, at := cat.Parse(strings.Repeat("let a = r ", 1<<20), names...); e != api.ErrLong || at != 0 {
		t.Errorf("12.3: %d at %d", e, at)
	}
	deepest := parsed(t, "let a = r"+strings.Repeat(";r", 2043))
	if b, e := deepest.Value("a", 0, bindRel("r", of(0, 0))); b != bindRel("a", of(0, 0)) || e != api.OK {
		t.Errorf("12.2: %v, %d", b, e)
	}
	if b, e := deepest.Value("a", 0, bindRel("r", of(0, 1))); b != bindRel("a", of()) || e != api.OK {
		t.Errorf("12.2: %v, %d", b, e)
	}
}
