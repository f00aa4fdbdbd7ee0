package cat_test

import (
	"maps"
	"slices"
	"testing"

	"belated/api"
	"belated/cat"
	"belated/rel"
	"belated/scan"
)

// model is chapter 12 done another way: what may stand behind what is a row of
// states, expressions are worked out on stacks from the left, relations are
// sets of pairs, a `let rec` is applied to all of its names at once.
type model struct {
	text   string
	known  map[string]bool // by name, whether it is a set
	lines  []line
	lets   []api.Decl
	checks []string
	e      api.Errno
	at     int
}

type line struct {
	what  string // let, rec, acyclic, irreflexive, empty
	names []api.Token
	exprs [][]api.Token
	as    string
}

// thing is a set or a relation; at is where the first word stands of what it
// was worked out from.
type thing struct {
	set   bool
	at    int
	elems map[int]bool
	pairs map[[2]int]bool
}

func (m *model) refuse(e api.Errno, at int) {
	if m.e == api.OK {
		m.e, m.at = e, at
	}
}

func read(text string, names ...api.Decl) *model {
	m := &model{text: text, known: map[string]bool{}}
	for _, d := range slices.Backward(names) {
		m.known[d.Name] = d.Set
	}
	if len(text) > 4096 {
		m.refuse(api.ErrLong, 0)
		return m
	}
	words, e, at := scan.Tokens(text)
	if m.refuse(e, at); e != api.OK {
		return m
	}
	m.form(words)
	for n := 0; n < len(m.lines) && m.e == api.OK; n++ {
		m.settle(m.lines[n])
	}
	return m
}

func isNAME(w api.Token) bool {
	return w.Kind == api.TokName && !slices.Contains([]string{"let", "rec", "and", "acyclic", "irreflexive", "empty", "as"}, w.Text)
}

func is(w api.Token, texts ...string) bool {
	return w.Kind != api.TokNumber && slices.Contains(texts, w.Text)
}

// twoSided tells whether the word is a `*` between two.
func twoSided(words []api.Token, k int) bool {
	if !is(words[k], "*") || k+1 == len(words) {
		return false
	}
	w := words[k+1]
	return isNAME(w) || w.Kind == api.TokNumber || is(w, "(", "[")
}

// walker is where in a statement the words have come to.
type walker struct {
	state    string
	open     []string // the brackets around
	products []bool   // by bracket, whether a product stands in this row
}

func (m *model) form(words []api.Token) {
	w := &walker{state: "statement", products: []bool{false}}
	for k := range words {
		switch m.step(w, words, k); m.e {
		case api.OK:
		case api.ErrLong:
			return
		default:
			m.at = words[k].At
			return
		}
	}
	switch w.state {
	case "statement", "done":
		return
	case "operator":
		if len(w.open) == 0 {
			return
		}
	}
	m.refuse(api.ErrEnd, len(m.text))
}

// step goes past one word, or refuses it.
func (m *model) step(w *walker, words []api.Token, k int) {
	word := words[k]
	inside := w.state == "operand" || w.state == "operator" || w.state == "minus" || w.state == "one"
	outer := w.state == "operator" && len(w.open) == 0
	var last *line
	if len(m.lines) > 0 {
		last = &m.lines[len(m.lines)-1]
	}
	isLet := last != nil && (last.what == "let" || last.what == "rec")
	switch {
	case (w.state == "statement" || w.state == "done" || outer) && is(word, "let"):
		m.lines = append(m.lines, line{what: "let"})
		w.state = "let"
	case (w.state == "statement" || w.state == "done" || outer) && is(word, "acyclic", "irreflexive", "empty"):
		m.lines = append(m.lines, line{what: word.Text, exprs: [][]api.Token{nil}})
		m.checks = append(m.checks, "")
		w.state, w.products = "operand", []bool{false}
	case w.state == "let" && is(word, "rec"):
		last.what, w.state = "rec", "name"
	case (w.state == "let" || w.state == "name") && isNAME(word):
		last.names, w.state = append(last.names, word), "equals"
	case w.state == "equals" && is(word, "="):
		last.exprs, w.state, w.products = append(last.exprs, nil), "operand", []bool{false}
	case outer && isLet && is(word, "and"):
		w.state = "name"
	case outer && !isLet && is(word, "as"):
		w.state = "as"
	case w.state == "as" && isNAME(word):
		m.checks[len(m.checks)-1], w.state = word.Text, "done"
	case inside && m.inside(w, words, k):
		n := len(last.exprs) - 1
		last.exprs[n] = append(last.exprs[n], words[k])
	default:
		m.refuse(api.ErrForm, word.At)
	}
}

// inside goes past a word of an expression; false, if it may not stand there.
func (m *model) inside(w *walker, words []api.Token, k int) bool {
	word, top := words[k], len(w.open)
	operand := w.state == "operand"
	operator := w.state == "operator"
	switch {
	case operand && (isNAME(word) || word.Kind == api.TokNumber && word.N == 0):
		w.state = "operator"
	case operand && is(word, "(", "["):
		if top == 32 {
			m.refuse(api.ErrLong, word.At)
		}
		w.open, w.products = append(w.open, word.Text), append(w.products, false)
	case operator && is(word, "|", "&", `\`, ";"):
		w.products[top], w.state = false, "operand"
	case operator && twoSided(words, k) && !w.products[top]:
		words[k].Text = "times"
		w.products[top], w.state = true, "operand"
	case operator && is(word, "+", "*", "?") && !twoSided(words, k):
	case operator && is(word, "^"):
		w.state = "minus"
	case w.state == "minus" && is(word, "-"):
		w.state = "one"
	case w.state == "one" && word.Kind == api.TokNumber && word.N == 1:
		w.state = "operator"
	case operator && top > 0 && (is(word, ")") && w.open[top-1] == "(" || is(word, "]") && w.open[top-1] == "["):
		w.open, w.products = w.open[:top-1], w.products[:top]
	default:
		return false
	}
	return true
}

func (m *model) settle(l line) {
	for n, name := range l.names {
		_, twice := m.known[name.Text]
		if twice || slices.ContainsFunc(l.names[:n], func(w api.Token) bool { return w.Text == name.Text }) {
			m.refuse(api.ErrTwice, name.At)
		}
		if len(m.lets)+n >= 64 {
			m.refuse(api.ErrLong, name.At)
		}
	}
	known := maps.Clone(m.known)
	own := map[string]bool{}
	if l.what == "rec" {
		for _, name := range l.names {
			known[name.Text], own[name.Text] = false, true
		}
	}
	env := map[string]thing{}
	for name, set := range known {
		env[name] = thing{set: set}
	}
	for n, words := range l.exprs {
		got := m.work(words, own, env, nil)
		if got.set && l.what != "let" && l.what != "empty" {
			m.refuse(api.ErrType, got.at)
		}
		if len(l.names) > 0 {
			m.lets = append(m.lets, api.Decl{Name: l.names[n].Text, Set: got.set})
			m.known[l.names[n].Text] = got.set
		}
	}
}

// stacks hold what is worked out, and the operators whose right part is not.
type stacks struct {
	*model
	done  []thing
	waits []api.Token
}

func binds(mark string) int {
	switch mark {
	case "|":
		return 1
	case "&", `\`:
		return 2
	case ";":
		return 3
	case "times":
		return 4
	}
	return 0 // a bracket
}

// work is what an expression stands for; it refuses, from the left, what may
// not be in it.
func (m *model) work(words []api.Token, own map[string]bool, env map[string]thing, u []int) thing {
	s := &stacks{model: m}
	for _, w := range words {
		top := len(s.done) - 1
		switch {
		case w.Kind == api.TokName:
			got, ok := env[w.Text]
			if !ok {
				m.refuse(api.ErrName, w.At)
			}
			if own[w.Text] && slices.ContainsFunc(s.waits, func(o api.Token) bool { return o.Text == `\` }) {
				m.refuse(api.ErrMono, w.At)
			}
			got.at = w.At
			s.done = append(s.done, got)
		case w.Kind == api.TokNumber && w.N == 0:
			s.done = append(s.done, thing{at: w.At})
		case is(w, "(", "["):
			s.waits = append(s.waits, w)
		case is(w, ")", "]"):
			s.reduce(1)
			if is(w, "]") {
				s.done[len(s.done)-1] = identity(s.wanted(s.done[len(s.done)-1], true).elems)
			}
			s.done[len(s.done)-1].at = s.waits[len(s.waits)-1].At
			s.waits = s.waits[:len(s.waits)-1]
		case binds(w.Text) > 0:
			s.reduce(binds(w.Text))
			if binds(w.Text) > 2 {
				s.wanted(s.done[len(s.done)-1], is(w, "times"))
			}
			s.waits = append(s.waits, w)
		case is(w, "+", "*", "?", "^"):
			s.done[top] = behind(w.Text, s.wanted(s.done[top], false), u)
		}
	}
	s.reduce(1)
	return s.done[0]
}

func (s *stacks) wanted(x thing, set bool) thing {
	if x.set != set {
		s.refuse(api.ErrType, x.at)
	}
	return x
}

// reduce works out the operators that wait and bind at least so much.
func (s *stacks) reduce(least int) {
	for len(s.waits) > 0 && binds(s.waits[len(s.waits)-1].Text) >= least {
		op, n := s.waits[len(s.waits)-1].Text, len(s.done)
		a, b := s.done[n-2], s.done[n-1]
		switch op {
		case ";":
			s.wanted(b, false)
		case "times":
			s.wanted(b, true)
		default:
			s.wanted(b, a.set)
		}
		s.done = append(s.done[:n-2], between(op, a, b))
		s.waits = s.waits[:len(s.waits)-1]
	}
}

func kept[K comparable](from map[K]bool, keep func(k K) bool) map[K]bool {
	out := map[K]bool{}
	for k := range from {
		if keep(k) {
			out[k] = true
		}
	}
	return out
}

func joined[K comparable](a, b map[K]bool) map[K]bool {
	out := maps.Clone(b)
	if out == nil {
		out = map[K]bool{}
	}
	maps.Copy(out, a)
	return out
}

func between(op string, a, b thing) thing {
	out := thing{set: a.set, at: a.at, pairs: map[[2]int]bool{}}
	switch op {
	case "|":
		out.elems, out.pairs = joined(a.elems, b.elems), joined(a.pairs, b.pairs)
	case "&":
		out.elems = kept(a.elems, func(k int) bool { return b.elems[k] })
		out.pairs = kept(a.pairs, func(k [2]int) bool { return b.pairs[k] })
	case `\`:
		out.elems = kept(a.elems, func(k int) bool { return !b.elems[k] })
		out.pairs = kept(a.pairs, func(k [2]int) bool { return !b.pairs[k] })
	case ";":
		out.set, out.pairs = false, steps(a.pairs, b.pairs)
	case "times":
		out.set = false
		for x := range a.elems {
			for y := range b.elems {
				out.pairs[[2]int{x, y}] = true
			}
		}
	}
	return out
}

func steps(a, b map[[2]int]bool) map[[2]int]bool {
	out := map[[2]int]bool{}
	for p := range a {
		for q := range b {
			if p[1] == q[0] {
				out[[2]int{p[0], q[1]}] = true
			}
		}
	}
	return out
}

func identity(elems map[int]bool) thing {
	out := thing{pairs: map[[2]int]bool{}}
	for e := range elems {
		out.pairs[[2]int{e, e}] = true
	}
	return out
}

// closed is all that one or more steps lead along.
func closed(pairs map[[2]int]bool) map[[2]int]bool {
	all := joined(pairs, nil)
	for {
		more := joined(all, steps(all, pairs))
		if len(more) == len(all) {
			return all
		}
		all = more
	}
}

func behind(op string, a thing, u []int) thing {
	out := thing{at: a.at, pairs: joined(a.pairs, nil)}
	if op == "+" || op == "*" {
		out.pairs = closed(a.pairs)
	}
	if op == "?" || op == "*" {
		for _, e := range u {
			out.pairs[[2]int{e, e}] = true
		}
	}
	if op == "^" {
		clear(out.pairs)
		for p := range a.pairs {
			out.pairs[[2]int{p[1], p[0]}] = true
		}
	}
	return out
}

// play is what the names of a model stand for, and the first check that does
// not hold.
func (m *model) play(us api.Set, bs []api.Bound) (env map[string]thing, holds bool, name string) {
	u := rel.List(us)
	env = map[string]thing{}
	for name, set := range m.known {
		env[name] = thing{set: set}
	}
	for _, b := range slices.Backward(bs) {
		if set, ok := m.known[b.Name]; ok && set == b.Set {
			env[b.Name] = fromBound(b)
		}
	}
	for _, d := range m.lets {
		env[d.Name] = thing{set: d.Set}
	}
	holds, check := true, 0
	for _, l := range m.lines {
		if len(l.names) > 0 {
			m.playLet(l, env, u)
			continue
		}
		if holds && !m.playCheck(l, env, u) {
			holds, name = false, m.checks[check]
		}
		check++
	}
	return env, holds, name
}

func (m *model) playLet(l line, env map[string]thing, u []int) {
	for {
		old := maps.Clone(env)
		more := false
		for n, words := range l.exprs {
			got, name := m.work(words, nil, old, u), l.names[n].Text
			more = more || len(got.pairs) != len(old[name].pairs)
			env[name] = got
		}
		if !more || l.what == "let" {
			return
		}
	}
}

func (m *model) playCheck(l line, env map[string]thing, u []int) bool {
	got := m.work(l.exprs[0], nil, env, u)
	if l.what == "empty" {
		return len(got.elems) == 0 && len(got.pairs) == 0
	}
	pairs := got.pairs
	if l.what == "acyclic" {
		pairs = closed(pairs)
	}
	for p := range pairs {
		if p[0] == p[1] {
			return false
		}
	}
	return true
}

func fromBound(b api.Bound) thing {
	out := thing{set: b.Set, elems: map[int]bool{}, pairs: map[[2]int]bool{}}
	if b.Set {
		for _, e := range rel.List(b.S) {
			out.elems[e] = true
		}
		return out
	}
	for _, p := range rel.Pairs(b.R) {
		out.pairs[p] = true
	}
	return out
}

func (x thing) bound(name string) api.Bound {
	b := api.Bound{Name: name, Set: x.set}
	if x.set {
		b.S = rel.Events(slices.Collect(maps.Keys(x.elems))...)
	} else {
		b.R = rel.Pair(slices.Collect(maps.Keys(x.pairs))...)
	}
	return b
}

// agrees fails if Parse tells of a text other than what the model does.
func agrees(t *testing.T, text string) (*cat.Model, *model) {
	t.Helper()
	want := read(text, known()...)
	got, e, at := cat.Parse(text, known()...)
	if e != want.e || at != want.at || (got == nil) != (e != api.OK) {
		t.Fatalf("12.3: Parse(%q): %d at %d, want %d at %d", text, e, at, want.e, want.at)
	}
	if e == api.OK && (!slices.Equal(got.Lets(), want.lets) || !slices.Equal(got.Checks(), want.checks)) {
		t.Fatalf("12.4: of %q: %v, %q, want %v, %q", text, got.Lets(), got.Checks(), want.lets, want.checks)
	}
	return got, want
}

// sameAnswers fails if what a model tells of bindings is not what the other
// one does.
func sameAnswers(t *testing.T, got *cat.Model, want *model, u api.Set, bs []api.Bound) {
	t.Helper()
	env, holds, name := want.play(u, bs)
	if gotHolds, gotName := got.Holds(u, bs...); gotHolds != holds || gotName != name {
		t.Fatalf("12.4: %q, u %v, bindings %v: %v, %q, want %v, %q", want.text, rel.List(u), bs, gotHolds, gotName, holds, name)
	}
	for name, x := range env {
		if b, e := got.Value(name, u, bs...); b != x.bound(name) || e != api.OK {
			t.Fatalf("12.4: %q, u %v, bindings %v: %s is %v, %d, want %v", want.text, rel.List(u), bs, name, b, e, x.bound(name))
		}
	}
}
