package cat_test

import (
	"slices"
	"strings"
	"testing"

	"belated/api"
)

// writer draws models as rows of words.
type writer struct {
	*dice
	words []string
	rels  []string // the names that it takes for relations
	sets  []string // and for sets
	fresh int      // how many names it has given
}

func (w *writer) put(words ...string) {
	w.words = append(w.words, words...)
}

// expression writes one, of a kind and, with brackets around the parts that
// bind less, of a depth.
func (w *writer) expression(set bool, depth int) {
	if w.below(40) == 0 {
		set = !set
	}
	switch k := w.below(12); {
	case depth == 0 || k < 3:
		w.atom(set, depth)
	case k < 8 || set:
		w.expression(set, depth-1)
		w.put(among(w.dice, "|", "|", "&", `\`))
		w.expression(set, depth-1)
	case k < 9:
		w.expression(set, depth-1)
		w.put(";")
		w.expression(set, depth-1)
	case k < 10:
		w.behind()
		w.put(";")
		w.behind()
	default:
		w.behind()
	}
}

// behind writes a relation with operators behind it.
func (w *writer) behind() {
	w.atom(false, 1)
	for range w.below(3) {
		w.put(among(w.dice, []string{"+"}, []string{"*"}, []string{"?"}, []string{"^", "-", "1"})...)
	}
}

func (w *writer) atom(set bool, depth int) {
	k := w.below(8)
	switch {
	case w.below(60) == 0:
		w.put(among(w.dice, "v", "p", "1", "as"))
	case depth > 0 && k == 0:
		w.put("(")
		w.expression(set, depth-1)
		w.put(")")
	case set:
		w.put(among(w.dice, w.sets...))
	case depth > 0 && k < 3:
		w.put("[")
		w.expression(true, depth-1)
		w.put("]")
	case k == 3:
		w.put(among(w.dice, w.sets...), "*", among(w.dice, w.sets...))
	case k == 4:
		w.put("0")
	default:
		w.put(among(w.dice, w.rels...))
	}
}

func (w *writer) name() string {
	if w.below(50) == 0 {
		return among(w.dice, "r", "a", "let", "v")
	}
	w.fresh++
	return string(rune('a' + w.fresh%16))
}

func (w *writer) let() {
	rec := w.below(3) == 0
	w.put("let")
	var names []string
	for range among(w.dice, 1, 1, 2, 3) {
		names = append(names, w.name())
	}
	if rec {
		w.put("rec")
		w.rels = slices.Concat(w.rels, names, names, names) // so they come often
	}
	for n, name := range names {
		if n > 0 {
			w.put("and")
		}
		set := !rec && w.below(3) == 0
		w.put(name, "=")
		w.expression(set, w.below(4))
		if set {
			w.sets = append(w.sets, name)
		} else if !rec {
			w.rels = append(w.rels, name)
		}
	}
}

func (w *writer) check() {
	what := among(w.dice, "acyclic", "irreflexive", "empty")
	w.put(what)
	w.expression(what == "empty" && w.below(2) == 0, w.below(4))
	if w.below(2) == 0 {
		w.put("as", among(w.dice, "a", "b", "r", "good"))
	}
}

func (d *dice) model() []string {
	w := &writer{dice: d, rels: []string{"r", "s", "q", "r"}, sets: []string{"W", "R"}}
	for range d.below(6) {
		if d.below(2) == 0 {
			w.let()
		} else {
			w.check()
		}
	}
	return w.words
}

// lay is a text of words: names and numbers are kept apart, marks may touch.
func (d *dice) lay(words []string) string {
	var b strings.Builder
	for n, word := range words {
		if n > 0 {
			b.WriteString(among(d, " ", " ", "\n", "\t", "  ", " (* let * *) "))
		}
		b.WriteString(word)
	}
	b.WriteString(among(d, "", "", " ", "\n(* as *)"))
	return b.String()
}

var vocabulary = []string{"let", "rec", "and", "acyclic", "irreflexive", "empty", "as", "r", "W", "v", "p", "0", "1", "(", ")", "[", "]", "|", "&", `\`, ";", "*", "+", "?", "^", "-", "=", `\/`, ":"}

// spoil turns a row of words at one place.
func (d *dice) spoil(words []string) []string {
	words = slices.Clone(words)
	at := d.below(len(words) + 1)
	if at == len(words) {
		return append(words, among(d, vocabulary...))
	}
	switch d.below(5) {
	case 0:
		return slices.Delete(words, at, at+1)
	case 1:
		return slices.Insert(words, at, among(d, vocabulary...))
	case 2:
		return words[:at]
	case 3:
		other := d.below(len(words))
		words[at], words[other] = words[other], words[at]
		return words
	}
	words[at] = among(d, vocabulary...)
	return words
}

// 12.1 to 12.4: models that are drawn are parsed as the other model does, and
// come to the same.
func TestDrawnModels(t *testing.T) {
	d, taken := dice(1201), 0
	for range 12000 {
		got, want := agrees(t, d.lay(d.model()))
		if got == nil {
			continue
		}
		taken++
		for range 3 {
			sameAnswers(t, got, want, among(&d, 0, 7, 31, d.set(), api.Set(0xffffffff)), d.bindings())
		}
	}
	if taken < 6000 {
		t.Errorf("only %d of the models that were drawn are models", taken)
	}
}

// 12.3: models of which some words are turned are refused as the other model
// does, or come to the same.
func TestSpoiltModels(t *testing.T) {
	d, taken := dice(1202), 0
	errors := map[api.Errno]int{}
	for range 60000 {
		words := d.model()
		for range 1 + d.below(3) {
			words = d.spoil(words)
		}
		got, want := agrees(t, d.lay(words))
		errors[want.e]++
		if got != nil {
			taken++
			sameAnswers(t, got, want, 31, d.bindings())
		}
	}
	for _, e := range []api.Errno{api.ErrEnd, api.ErrForm, api.ErrName, api.ErrType, api.ErrTwice, api.ErrMono} {
		if errors[e] < 50 {
			t.Errorf("only %d texts that were drawn are refused by %d", errors[e], e)
		}
	}
	if taken < 2000 {
		t.Errorf("only %d of the texts that were drawn are models", taken)
	}
}

// rows calls with each row of so many words.
func rows(words []string, n int, call func(row []string)) {
	row := make([]string, n)
	var fill func(k int)
	fill = func(k int) {
		if k == n {
			call(row)
			return
		}
		for _, word := range words {
			row[k] = word
			fill(k + 1)
		}
	}
	fill(0)
}

// 12.1, 12.3: all texts of a few words.
func TestAllShortTexts(t *testing.T) {
	for n := range 4 {
		rows(vocabulary, n, func(row []string) { agrees(t, strings.Join(row, " ")) })
	}
}

// 12.1, 12.3: all short rows of words where an expression must stand.
func TestAllShortExpressions(t *testing.T) {
	words := []string{"r", "W", "v", "p", "0", "1", "(", ")", "[", "]", "|", "&", `\`, ";", "*", "+", "^", "as", "and"}
	for _, ahead := range []string{"empty", "acyclic", "let a =", "let rec p =", "empty [", "acyclic W *", "empty W \\"} {
		for n := range 4 {
			rows(words, n, func(row []string) { agrees(t, ahead+" "+strings.Join(row, " ")) })
		}
	}
	few := []string{"r", "W", "(", ")", "[", "]", `\`, ";", "*", "+"}
	for n := 4; n < 6; n++ {
		rows(few, n, func(row []string) { agrees(t, "empty "+strings.Join(row, " ")) })
	}
}
