package cat_test

import (
	"slices"
	"strings"
	"testing"

	"belated/api"
	"belated/cat"
)

// 12.1: what is a model.
func TestModels(t *testing.T) {
	for text, want := range map[string]struct {
		lets   []api.Decl
		checks []string
	}{
		"":                             {},
		" \n\t ":                       {},
		"(* a remark *)":               {},
		"let a = r":                    {lets: []api.Decl{{Name: "a"}}},
		"let a=W":                      {lets: []api.Decl{{Name: "a", Set: true}}},
		"let a = r and b = W and c =0": {lets: []api.Decl{{Name: "a"}, {Name: "b", Set: true}, {Name: "c"}}},
		"let rec a = r":                {lets: []api.Decl{{Name: "a"}}},
		"let rec a = b and b = a":      {lets: []api.Decl{{Name: "a"}, {Name: "b"}}},
		"acyclic r":                    {checks: []string{""}},
		"acyclic r as a":               {checks: []string{"a"}},
		"irreflexive r as a empty W":   {checks: []string{"a", ""}},
		"empty r empty r as r":         {checks: []string{"", "r"}},
		"empty r as W let a = r":       {lets: []api.Decl{{Name: "a"}}, checks: []string{"W"}},
		"let a = r acyclic a as a let b = a irreflexive b let c = b":   {lets: []api.Decl{{Name: "a"}, {Name: "b"}, {Name: "c"}}, checks: []string{"a", ""}},
		"let lets = r let _ = s let a.b_1 = r let Let = r let REC = r": {lets: []api.Decl{{Name: "lets"}, {Name: "_"}, {Name: "a.b_1"}, {Name: "Let"}, {Name: "REC"}}},
	} {
		m := parsed(t, text)
		if !slices.Equal(m.Lets(), want.lets) || !slices.Equal(m.Checks(), want.checks) {
			t.Errorf("12.1: %q: %v, %q", text, m.Lets(), m.Checks())
		}
		agrees(t, text)
	}
}

// noNames are the words that are no NAMEs.
var noNames = []string{"let", "rec", "and", "acyclic", "irreflexive", "empty", "as"}

// 12.1: some words are no NAMEs, wherever one must stand, though they may be
// known at first.
func TestWordsThatAreNoNames(t *testing.T) {
	for _, word := range noNames {
		names := append(known(), api.Decl{Name: word})
		for text, at := range map[string]int{
			"let " + word + " = r": 4, "let rec " + word + " = r": 8, "let a = r and " + word + " = s": 14,
			"empty " + word: 6, "empty (" + word + ")": 7, "empty r | " + word: 10, "empty W * R ; " + word: 14,
			"empty r as " + word: 11, "let a = " + word: 8,
		} {
			if text == "let rec = r" {
				at = 8 // the word is where it may stand, what is behind it is not
			}
			if m, e, gotAt := cat.Parse(text, names...); m != nil || e != api.ErrForm || gotAt != at {
				t.Errorf("12.1: Parse(%q): %d at %d, want %d at %d", text, e, gotAt, api.ErrForm, at)
			}
		}
		m := parsedOver(t, "empty r", names...)
		if b, e := m.Value(word, 0, bindRel(word, of(1, 2))); b != bindRel(word, of(1, 2)) || e != api.OK {
			t.Errorf("12.4: Value(%q) = %v, %d", word, b, e)
		}
	}
}

// 12.1: a `*` stands between two just if a NAME, a number, `(` or `[` comes
// behind it.
func TestStars(t *testing.T) {
	bs := []api.Bound{bindRel("r", of(0, 1)), bindSet("W", 3), bindSet("R", 6)}
	isRel(t, "W * R", of(0, 1, 0, 2, 1, 1, 1, 2), 0, bs...)
	isRel(t, "W *R", of(0, 1, 0, 2, 1, 1, 1, 2), 0, bs...)
	isRel(t, "W*(R)", of(0, 1, 0, 2, 1, 1, 1, 2), 0, bs...)
	isRel(t, "(W)* (R \\ W)", of(0, 2, 1, 2), 0, bs...)
	isRel(t, "W (* * *) * (* * *) R", of(0, 1, 0, 2, 1, 1, 1, 2), 0, bs...)
	starred := of(0, 0, 0, 1, 1, 1, 5, 5)
	for _, text := range []string{"r*", "(r*)", "(r *)", "r * | 0", "r*;r* | r*", "r* & r*", `r* \ 0`, "r*^-1^-1", "r**", "r*+", "r*?", "r * (* W *)"} {
		isRel(t, text, starred, 0b100011, bs...)
	}
	for _, behind := range []string{"let b = r", "acyclic r", "irreflexive s", "empty r", "and c = r"} {
		b, e := parsed(t, "let a = r * "+behind).Value("a", 0b100011, bs...)
		if b != bindRel("a", starred) || e != api.OK {
			t.Errorf("12.1: a star ahead of %q: %v, %d", behind, b, e)
		}
	}
	if ok, name := parsed(t, "acyclic r* as it").Holds(1, bs...); ok || name != "it" {
		t.Errorf("12.1: a star ahead of `as`: %v, %q", ok, name)
	}
	// Between two, whatever that comes to.
	refused(t, "empty r * s", api.ErrType, 6)
	refused(t, "empty W * 0", api.ErrType, 10)
	refused(t, "empty W * 1", api.ErrForm, 10)
	refused(t, "empty W * [W]", api.ErrType, 10)
	refused(t, "empty W * (r)", api.ErrType, 10)
	refused(t, "empty W * (R", api.ErrEnd, 12)
	refused(t, "empty W * v", api.ErrName, 10)
	// Behind one, whatever that comes to.
	refused(t, "empty W *", api.ErrType, 6)
	refused(t, "empty W * ; R", api.ErrType, 6)
	refused(t, "empty W * * R", api.ErrType, 6)
	refused(t, "empty r * * R", api.ErrType, 6)
	refused(t, "empty W * -1", api.ErrForm, 10)
	refused(t, "empty r * )", api.ErrForm, 10)
	refused(t, "empty r * ]", api.ErrForm, 10)
	refused(t, "empty r * = r", api.ErrForm, 10)
	refused(t, "empty r * rec", api.ErrForm, 10)
	refused(t, "empty * r", api.ErrForm, 6)
	refused(t, "empty *", api.ErrForm, 6)
}

// 12.1: of `*` between two there is one at most, unbracketed.
func TestOneProduct(t *testing.T) {
	refused(t, "empty W * R * W", api.ErrForm, 12)
	refused(t, "empty W * R * 0", api.ErrForm, 12)
	refused(t, "empty W * R * 5", api.ErrForm, 12)
	refused(t, "empty W * R * (W)", api.ErrForm, 12)
	refused(t, "empty W * R * [W]", api.ErrForm, 12)
	refused(t, "empty W * (R) * W", api.ErrForm, 14)
	refused(t, "empty W * R+ * W", api.ErrForm, 13)
	refused(t, "empty W * R* * W", api.ErrForm, 13)
	refused(t, "empty (W * R * W)", api.ErrForm, 13)
	refused(t, "empty [W * R * W]", api.ErrForm, 13)
	refused(t, "empty r ; W * R * W", api.ErrForm, 16)
	refused(t, "let a = W * R * W", api.ErrForm, 14)
	refused(t, "empty (W * R) * W", api.ErrType, 6)
	refused(t, "empty W * (R * W)", api.ErrType, 10)
	refused(t, "empty W * R *", api.ErrType, 10)
	bs := []api.Bound{bindSet("W", 1), bindSet("R", 2)}
	isRel(t, "W * R ; R * W", of(0, 0), 0, bs...)
	isRel(t, "W * R | R * W & R * W", of(0, 1, 1, 0), 0, bs...)
	isRel(t, `W * R \ R * W`, of(0, 1), 0, bs...)
	isRel(t, "(W * R) ; [R] ; (R * W | W * R)", of(0, 0), 0, bs...)
	isRel(t, "(W | R) * (R | W) & [W]", of(0, 0), 0, bs...)
}

// 12.1: the numbers that may stand in a model.
func TestNumbers(t *testing.T) {
	bs := []api.Bound{bindRel("r", of(0, 1))}
	for _, text := range []string{"0", "00", "0x0", "0000000000000000000"} {
		isRel(t, text, of(), 7, bs...)
	}
	for _, text := range []string{"r^-1", "r ^ - 1", "r^(* a *)-\n1", "r^-01", "r^-0x1"} {
		isRel(t, text, of(1, 0), 7, bs...)
	}
	for _, text := range []string{"1", "2", "01", "0x1", "0x8000000000000000", "9223372036854775808"} {
		refused(t, "empty "+text, api.ErrForm, 6)
		refused(t, "empty r ; "+text, api.ErrForm, 10)
		refused(t, "empty ("+text, api.ErrForm, 7)
	}
	for _, text := range []string{"0", "2", "11", "0x2", "r", "-1", "+"} {
		refused(t, "empty r^-"+text, api.ErrForm, 9)
	}
}

// 12.3: too long texts, and what scan refuses, go ahead of all else.
func TestTextsThatAreNoWords(t *testing.T) {
	for _, text := range []string{"", "acyclic r", "let a = r and b = s "} {
		full := text + strings.Repeat(" ", 4096-len(text))
		parsed(t, full)
		refused(t, full+" ", api.ErrLong, 0)
		refused(t, "@"+full, api.ErrLong, 0)
		refused(t, strings.Repeat(full, 20), api.ErrLong, 0)
	}
	words := "let a = r" + strings.Repeat("|r", 2043)
	parsed(t, words+" ")
	refused(t, words+"  ", api.ErrLong, 0)
	refused(t, "acyclic r @", api.ErrByte, 10)
	refused(t, "acyclic r \r", api.ErrByte, 10)
	refused(t, "acyclic r (* ", api.ErrEnd, 10)
	refused(t, "acyclic (*) r", api.ErrEnd, 8)
	refused(t, "acyclic 12a", api.ErrNumber, 8)
	refused(t, "let let \x00", api.ErrByte, 8)
	refused(t, ") ) ) é", api.ErrByte, 6)
	refused(t, "acyclic v !", api.ErrByte, 10)
}

// 12.3: where a word is missing, at the text's end: behind blanks and remarks
// too.
func TestMissingWords(t *testing.T) {
	for _, text := range []string{
		"let", "let rec", "let a", "let rec a", "let a =", "let rec a =", "let a = r and", "let a = r and b", "let a = r and b =",
		"acyclic", "irreflexive", "empty", "acyclic r as",
		"acyclic (", "acyclic [", "acyclic (r", "acyclic [W", "acyclic ((r)", "acyclic ([W]", "acyclic [(W)", "acyclic (r*", "acyclic (r+",
		"acyclic r |", "acyclic r &", `acyclic r \`, "acyclic r ;", "acyclic W * (", "acyclic r | (s ;",
		"acyclic r^", "acyclic r^-", "acyclic (r^-1", "acyclic v let a = v |",
	} {
		for _, behind := range []string{"", " ", "\n\t ", " (* r *)", " (* r *) "} {
			refused(t, text+behind, api.ErrEnd, len(text+behind))
		}
	}
}

// 12.3: words that may not stand where they do: the first one is told.
func TestWordsThatMayNotStandThere(t *testing.T) {
	for _, x := range []struct {
		text string
		at   int
	}{
		{"r", 0}, {"rec a = r", 0}, {"and a = r", 0}, {"as a", 0}, {"0", 0}, {"(acyclic r)", 0}, {"= r", 0}, {"foo r", 0}, {"Let a = r", 0},
		{"let 5 = r", 4}, {"let 0 = r", 4}, {"let = r", 4}, {"let (a) = r", 4}, {"let rec 5 = r", 8}, {"let rec rec a = r", 8}, {"let let a = r", 4},
		{"let a r", 6}, {"let a : r", 6}, {"let a == r", 7}, {"let rec a r", 10}, {"let a and b = r", 6},
		{"let a = r and rec b = r", 14}, {"let a = r and let b = r", 14}, {"let a = r and and", 14}, {"let a = r and 0", 14},
		{"let a = r r", 10}, {"let a = r 0", 10}, {"let a = r (s)", 10}, {"let a = r [W]", 10}, {"let a = r as b", 10}, {"let a = r rec", 10}, {"let a = r = s", 10}, {"let a = r - s", 10}, {"let a = r , s", 10},
		{`let a = r \/ s`, 10}, {`let a = r /\ s`, 10}, {"let a = r / s", 10}, {"let a = ~r", 8}, {"let a = - r", 8}, {"let a = {r}", 8},
		{"acyclic r and b = r", 10}, {"acyclic r as b and c", 15}, {"acyclic r as a as b", 15}, {"acyclic r as a b", 15}, {"acyclic r as 5", 13}, {"acyclic r as 0", 13}, {"acyclic r as (a)", 13}, {"acyclic r as |", 13}, {"acyclic as a", 8}, {"acyclic = r", 8}, {"acyclic acyclic r", 8},
		{"acyclic ()", 9}, {"acyclic []", 9}, {"acyclic (r]", 10}, {"acyclic [W)", 10}, {"acyclic (r))", 11}, {"acyclic [W]]", 11}, {"acyclic r)", 9}, {"acyclic r]", 9}, {"acyclic )", 8}, {"acyclic ]", 8},
		{"acyclic (r s)", 11}, {"acyclic (r as a)", 11}, {"acyclic (r let a = s", 11}, {"acyclic ([W) ]", 11}, {"acyclic [(W] )", 11}, {"let a = (r and b = s)", 11},
		{"acyclic | r", 8}, {"acyclic & r", 8}, {`acyclic \ r`, 8}, {"acyclic ; r", 8}, {"acyclic + r", 8}, {"acyclic ? r", 8}, {"acyclic ^-1", 8},
		{"acyclic r | | s", 12}, {"acyclic r | ; s", 12}, {"acyclic r ; + s", 12}, {"acyclic r & )", 12}, {"acyclic r | let a = r", 12}, {"acyclic r | * s", 12}, {"acyclic r ;; s", 11},
		{"acyclic r^1", 10}, {"acyclic r^ r", 11}, {"acyclic r^+", 10}, {"acyclic r^-2", 11}, {"acyclic r^-0", 11}, {"acyclic r^-r", 11}, {"acyclic r^--1", 11}, {"acyclic r^-(1)", 11},
		{"acyclic r+s", 10}, {"acyclic r?s", 10}, {"acyclic r^-1 s", 13}, {"acyclic r+(s)", 10}, {"acyclic r+[W]", 10}, {"acyclic r+0", 10},
		{"let a = r ) let", 10}, {"acyclic v ) (", 10}, {"let r = 5 5", 8},
	} {
		refused(t, x.text, api.ErrForm, x.at)
	}
}

// around is a text with brackets around it.
func around(kinds string, text string) string {
	for _, kind := range slices.Backward([]byte(kinds)) {
		if kind == '(' {
			text = "(" + text + ")"
		} else {
			text = "[" + text + "]"
		}
	}
	return text
}

// 12.3: a bracket that stands within MaxDepth others.
func TestDeepBrackets(t *testing.T) {
	deep := strings.Repeat("(", 32)
	bs := []api.Bound{bindRel("r", of(0, 1)), bindSet("W", 5)}
	isRel(t, around(deep, "r"), of(0, 1), 0, bs...)
	isRel(t, around(deep[1:]+"[", "W"), of(0, 0, 2, 2), 0, bs...)
	isRel(t, around("["+deep[1:], "W"), of(0, 0, 2, 2), 0, bs...)
	isRel(t, around(deep, "r")+" | "+around(deep, "r")+" | "+around(deep, "0"), of(0, 1), 0, bs...)
	isRel(t, around(deep[1:], "(r) ; (s) | (r)"), of(0, 1), 0, bs...)
	parsed(t, "acyclic "+around(deep, "r")+" let a = "+around(deep, "r")+" and b = "+around(deep, "s"))
	refused(t, "empty "+around(deep+"(", "r"), api.ErrLong, 6+32)
	refused(t, "empty "+around(deep+"[", "W"), api.ErrLong, 6+32)
	refused(t, "empty "+around("["+deep, "W"), api.ErrLong, 6+32)
	refused(t, "empty "+around(deep, "r | (s)"), api.ErrLong, 6+32+4)
	refused(t, "empty "+around(deep, "W*(R)"), api.ErrLong, 6+32+2)
	refused(t, "empty "+strings.Repeat("(", 33), api.ErrLong, 6+32)
	refused(t, "empty "+strings.Repeat("(", 3000), api.ErrLong, 6+32)
	refused(t, "empty "+deep+"r (", api.ErrForm, 6+32+2)
	refused(t, "empty "+deep+") (", api.ErrForm, 6+32)
	refused(t, "empty "+deep+"(r let", api.ErrLong, 6+32)
	refused(t, "empty r r "+around(deep+"(", "r"), api.ErrForm, 8)
	refused(t, "empty v let r = "+around(deep+"(", "r"), api.ErrLong, 16+32)
}

// 12.3: the form of it all goes ahead of names, wherever these are wrong.
func TestFormAheadOfNames(t *testing.T) {
	for _, wrong := range []string{"acyclic v", "let r = s", "acyclic W", "let rec p = r \\ p", "let a = 0 let a = 0"} {
		n := len(wrong)
		refused(t, wrong+" )", api.ErrForm, n+1)
		refused(t, wrong+" |", api.ErrEnd, n+2)
		refused(t, wrong+" let b = "+strings.Repeat("(", 40), api.ErrLong, n+9+32)
		refused(t, wrong+" let b = 5", api.ErrForm, n+9)
	}
}

// 12.3: many names and brackets side by side do no harm.
func TestLongTexts(t *testing.T) {
	parsed(t, "empty r"+strings.Repeat(`|(r+)&([W]*)\(0?);((W*R)^-1)`, 130))
	parsed(t, "empty r"+strings.Repeat("+", 4089))
	parsed(t, "empty r"+strings.Repeat("^-1", 1363))
	refused(t, "empty r"+strings.Repeat("*", 4087)+"r", api.ErrType, 6)
	refused(t, "empty "+strings.Repeat("W;", 2000)+"W", api.ErrType, 6)
	refused(t, "empty "+strings.Repeat("r;", 2000)+"v", api.ErrName, 4006)
}
