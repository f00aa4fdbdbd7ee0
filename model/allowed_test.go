package model_test

import (
	"math"
	"slices"
	"strings"
	"testing"

	"belated/api"
	"belated/cand"
	"belated/cat"
	"belated/cond"
	"belated/model"
	"belated/rel"
)

// 13.1

func TestTexts(t *testing.T) {
	for arch, checks := range map[int][]string{0: {"order"}, api.X86: {"order", "local"}, api.RISCV: {"order", "local"}, api.ARM: {"order", "local"}} {
		m, e, at := cat.Parse(model.Text(arch), cand.Names()...)
		if e != api.OK || at != 0 {
			t.Errorf("13.1: Text(%d): error %d at %d", arch, e, at)
		}
		if got := m.Checks(); !slices.Equal(got, checks) {
			t.Errorf("13.1: the checks of Text(%d) are %q", arch, got)
		}
	}
	if model.Text(api.RISCV) != model.Text(api.ARM) {
		t.Error("13.1: Text of RISCV and ARM are not the same")
	}
	for _, arch := range []int{math.MinInt, math.MinInt + 1, -1 << 32, -3, -2, -1, 4, 5, 6, 7, 8, 255, 256, 257, 258, 259, 1 << 16, 1<<32 + 1, 1<<32 + 2, 1 << 62, math.MaxInt - 1, math.MaxInt} {
		if text := model.Text(arch); text != "" {
			t.Errorf("13.1: Text(%d) is %q", arch, text)
		}
	}
	for arch := -1000; arch <= 1000; arch++ {
		if is := arch >= 0 && arch <= 3; (model.Text(arch) != "") != is {
			t.Errorf("13.1: Text(%d) is %q", arch, model.Text(arch))
		}
	}
}

// 13.2

var sb = threads(code{one(x), load(0, y)}, code{one(y), load(0, x)})

func TestWithTexts(t *testing.T) {
	for _, arch := range every {
		test := on(arch, sb...)
		for _, k := range []struct {
			texts []string
			n     int
		}{
			{nil, 4}, {[]string{}, 4},
			{[]string{model.Text(0)}, 3}, {[]string{model.Text(api.X86)}, 4}, {[]string{model.Text(api.RISCV)}, 4}, {[]string{model.Text(api.ARM)}, 4},
			{[]string{""}, 4}, {[]string{" \t\n"}, 4}, {[]string{"(* nothing *)"}, 4}, {[]string{"", "", ""}, 4},
			{[]string{model.Text(0), model.Text(0)}, 3}, {[]string{model.Text(0), ""}, 3}, {[]string{"", model.Text(0)}, 3},
			{[]string{model.Text(0), model.Text(api.X86), model.Text(api.ARM)}, 3}, {[]string{model.Text(api.X86), model.Text(api.ARM), model.Text(0)}, 3},
			{[]string{"empty M"}, 0}, {[]string{"", "empty M"}, 0}, {[]string{"empty M", ""}, 0}, {[]string{"empty M", "empty M"}, 0}, {[]string{"empty W & R"}, 4},
			{[]string{"empty fr"}, 1}, {[]string{"empty rf"}, 1}, {[]string{"empty rf", "empty fr"}, 0}, {[]string{"empty rf empty fr"}, 0},
			{[]string{"empty fr & ext as x"}, 1}, {[]string{"irreflexive rf"}, 4}, {[]string{"acyclic rf ; po | fr ; po"}, 3}, {[]string{"let a = po | fr acyclic a", "let a = rf acyclic a"}, 3},
			{[]string{"let only = po"}, 4},
		} {
			if l, e, at := model.Allowed(test, k.texts...); len(l) != k.n || e != api.OK || at != 0 {
				t.Errorf("13.2: on %d %q: %d outcomes, error %d at %d, want %d", arch, k.texts, len(l), e, at, k.n)
			}
		}
	}
}

// All texts must hold of one Run; that each holds of one with that outcome is
// not enough.
func TestTextsOfOneRun(t *testing.T) {
	test := on(api.ARM, code{release(one(x))}, code{one(x)})
	right(t, "two stores of 1", test)
	first, last := "empty co ; [L] as first", "empty [L] ; co as last"
	for _, k := range []struct {
		texts []string
		n     int
	}{{[]string{first}, 1}, {[]string{last}, 1}, {[]string{first, last}, 0}, {[]string{last, first}, 0}, {[]string{first + " " + last}, 0}, {[]string{first, first}, 1}, {nil, 1}} {
		if got := allowed(t, test, k.texts...); len(got) != k.n {
			t.Errorf("13.2: %q: %v", k.texts, got)
		}
	}
}

// The Run's events are u: no more, no fewer.
func TestTheEvents(t *testing.T) {
	most := slices.Repeat(code{full}, api.MaxCode)
	mixed := code{load(0, x), isb(), fence(1, 3), one(y), konst(0, 1), move(1, 0), ifZero(0, 7)}
	for _, k := range []struct {
		codes []code
		text  string
		n     int
	}{
		{threads(nil), "empty 0?", 1}, {threads(nil), "empty 0*", 1}, {threads(code{konst(0, 1)}, nil), "acyclic 0?", 1},
		{threads(code{full}), "empty 0?", 0}, {threads(code{full}), "empty 0*", 0}, {threads(code{full}), "irreflexive 0?", 0}, {threads(code{isb()}), "acyclic 0*", 0},
		{threads(code{isb()}), "empty 0+", 1}, {threads(code{one(x)}), "empty 0?", 0},
		{threads(mixed), `empty 0? \ [M | F | I]`, 1}, {threads(mixed), `empty [M | F | I] \ 0?`, 1}, {threads(mixed), `empty [M | F | I] \ 0*`, 1}, {threads(mixed), `empty 0* \ [M | F | I]`, 1}, {threads(mixed), `empty 0? \ [M | F]`, 0}, {threads(mixed), `empty 0? \ [F | I]`, 0},
		{threads(most, most, most), `empty 0? \ [F]`, 1}, {threads(most, most, most), `empty [F] \ 0?`, 1}, {threads(most, most, most), `empty 0?`, 0},
	} {
		test := on(api.ARM, k.codes...)
		right(t, k.text, test)
		if got := allowed(t, test, k.text); len(got) != k.n {
			t.Errorf("13.2: %q of %+v: %d outcomes, want %d", k.text, k.codes, len(got), k.n)
		}
	}
}

// Each name of cand.Names is known, as what it is, and may not be given again.
func TestNamesOfTexts(t *testing.T) {
	test := on(api.ARM, sb...)
	for _, d := range cand.Names() {
		for _, text := range []string{"let " + d.Name + " = po", "let rec " + d.Name + " = po", "let a = po let " + d.Name + " = rf", "let a = rf and " + d.Name + " = " + d.Name} {
			if l, e, at := model.Allowed(test, text); len(l) != 0 || e != api.ErrTwice || at != strings.LastIndex(text, d.Name+" =") {
				t.Errorf("13.2: %q: %d outcomes, error %d at %d", text, len(l), e, at)
			}
		}
		if _, e, at := model.Allowed(test, "empty "+d.Name); e != api.OK || at != 0 {
			t.Errorf("13.2: %s is not known: %d at %d", d.Name, e, at)
		}
		want, place := api.OK, 0
		if d.Set {
			want, place = api.ErrType, 8
		}
		if _, e, at := model.Allowed(test, "acyclic "+d.Name); e != want || at != place {
			t.Errorf("13.2: acyclic %s: error %d at %d", d.Name, e, at)
		}
		if _, e, at := model.Allowed(test, "empty ["+d.Name+"]"); (e == api.OK) != d.Set || !d.Set && (e != api.ErrType || at != 7) {
			t.Errorf("13.2: [%s]: error %d at %d", d.Name, e, at)
		}
	}
	for _, text := range []string{"empty m", "empty rfx", "empty u", "empty order", "empty id", "empty loc", "empty Po"} {
		if _, e, at := model.Allowed(test, text); e != api.ErrName || at != 6 {
			t.Errorf("13.2: %q: error %d at %d", text, e, at)
		}
	}
}

// The first text that is refused counts, wherever it stands.
func TestRefused(t *testing.T) {
	long := strings.Repeat(" ", api.MaxModel)
	deep := "empty " + strings.Repeat("(", 33) + "po" + strings.Repeat(")", 33)
	many := ""
	for n := range api.MaxNames + 1 {
		many += "let n" + string(rune('a'+n/26)) + string(rune('a'+n%26)) + " = po\n"
	}
	good := []string{"", "empty M", model.Text(0), "acyclic po as order"}
	for _, bad := range []struct {
		text string
		e    api.Errno
		at   int
	}{
		{"acyclic nobody", api.ErrName, 8}, {"acyclic M", api.ErrType, 8}, {"acyclic", api.ErrEnd, 7}, {"x", api.ErrForm, 0}, {" ;", api.ErrForm, 1}, {"acyclic po\x00", api.ErrByte, 10}, {"empty 12a", api.ErrNumber, 6},
		{"empty po (* ", api.ErrEnd, 9}, {"let rf = po", api.ErrTwice, 4}, {"let a = po let a = po", api.ErrTwice, 15}, {`let rec p = po \ p`, api.ErrMono, 17}, {long + " ", api.ErrLong, 0}, {deep, api.ErrLong, 6 + 32},
		{many, api.ErrLong, strings.LastIndex(many, "n")}, {"empty 1", api.ErrForm, 6}, {"let a = M empty a ; po", api.ErrType, 16}, {"é", api.ErrByte, 0}, {"let = po", api.ErrForm, 4}, {"acyclic po as let", api.ErrForm, 14},
	} {
		for _, arch := range every {
			test := on(arch, sb...)
			refused := func(texts ...string) {
				t.Helper()
				if l, e, at := model.Allowed(test, texts...); len(l) != 0 || e != bad.e || at != bad.at {
					t.Errorf("13.2: %q: %d outcomes, error %d at %d, want %d at %d", texts, len(l), e, at, bad.e, bad.at)
				}
			}
			refused(bad.text)
			refused(bad.text, bad.text)
			for _, g := range good {
				refused(bad.text, g)
				refused(g, bad.text)
				refused(g, g, bad.text, g)
				refused(g, bad.text, "acyclic another")
				refused(bad.text, "  @", g)
				refused(g, bad.text, bad.text+"@", long+long)
			}
		}
	}
	if _, e, at := model.Allowed(on(api.ARM, sb...), long); e != api.OK || at != 0 {
		t.Errorf("13.2: MaxModel blanks: error %d at %d", e, at)
	}
	// What one text gives another one does not know, and may give again.
	if _, e, at := model.Allowed(on(api.ARM, sb...), "let a = po", "empty a"); e != api.ErrName || at != 6 {
		t.Errorf("13.2: a name of another text: error %d at %d", e, at)
	}
}

// phrase draws an expression over the names, most of them right.
func (d *dice) phrase(depth int, set bool) string {
	names := []string{"po", "ext", "int", "ov", "addr", "data", "ctrl", "rf", "co", "fr", "corr", "0"}
	if set {
		names = []string{"M", "R", "W", "X", "F", "I", "A", "Q", "L", "PR", "PW", "SR", "SW"}
	}
	if d.below(60) == 0 {
		set = !set
	}
	if depth == 0 || d.below(4) == 0 {
		return names[d.below(len(names))]
	}
	left := d.phrase(depth-1, set)
	if set || d.below(3) == 0 {
		return "(" + left + []string{" | ", " & ", ` \ `}[d.below(3)] + d.phrase(depth-1, set) + ")"
	}
	switch d.below(7) {
	case 0:
		return "[" + d.phrase(depth-1, true) + "]"
	case 1:
		return "(" + d.phrase(depth-1, true) + " * " + d.phrase(depth-1, true) + ")"
	case 2, 3:
		return left + []string{"+", "?", "*", "^-1"}[d.below(4)]
	}
	return "(" + left + " ; " + d.phrase(depth-1, set) + ")"
}

// order draws a union of what orders are made of.
func (d *dice) order() string {
	out := "0"
	for _, r := range []string{"po", "po & ov", "rf", "rf & ext", "co", "fr", "[W] ; po", "po ; [W]", "[R] ; po ; [R]", "addr | data", "corr", "ctrl", "[M] ; po ; [F] ; po ; [M]"} {
		if d.below(3) > 0 {
			out += " | " + r
		}
	}
	return out
}

// text draws a model.
func (d *dice) text() string {
	var out strings.Builder
	for range d.below(3) {
		switch d.below(10) {
		case 0:
			out.WriteString("let a = " + d.phrase(2, false) + " acyclic a ")
		case 1:
			out.WriteString("let rec b = " + d.phrase(1, false) + " | b ; " + d.phrase(1, false) + " empty b ; " + d.phrase(1, false) + " ")
		case 2:
			out.WriteString("empty " + d.phrase(3, d.flag()) + " & " + d.phrase(1, false) + " ")
		case 3:
			out.WriteString([]string{"acyclic ", "irreflexive "}[d.below(2)] + d.phrase(3, false) + " ")
		case 4, 5:
			out.WriteString("empty " + []string{"rf & ext", "fr ; rf", "co", "[R] ; fr", "rf^-1 ; co", `fr \ rf`}[d.below(6)] + " ")
		default:
			out.WriteString("acyclic " + d.order() + " ")
		}
	}
	return out.String()
}

// 13.2, of any texts: what cat says of each, and, if it takes all, the outcomes
// of all Runs of which all hold.
func TestDrawnTexts(t *testing.T) {
	t.Parallel()
	d := dice(500)
	var counts [3]int
	for n := range 4000 {
		test := d.knot(every[n%3], 2+d.below(4))
		texts := []string{d.text()}
		for d.below(3) == 0 {
			texts = append(texts, d.text())
		}
		got, e, at := model.Allowed(test, texts...)
		var models []*cat.Model
		wantE, wantAt := api.OK, 0
		for _, text := range texts {
			m, e, at := cat.Parse(text, cand.Names()...)
			if models = append(models, m); e != api.OK && wantE == api.OK {
				wantE, wantAt = e, at
			}
		}
		if e != wantE || at != wantAt {
			t.Fatalf("13.2: %q: error %d at %d, want %d at %d", texts, e, at, wantE, wantAt)
		}
		var want []api.Outcome
		runs := 0
		if e == api.OK {
			for _, r := range cand.Runs(test) {
				runs++
				if !slices.ContainsFunc(models, func(m *cat.Model) bool {
					holds, _ := m.Holds(rel.First(len(r.Events)), cand.Bind(test, r)...)
					return !holds
				}) {
					want = append(want, r.Outcome)
				}
			}
		}
		if !slices.Equal(got, cond.Sort(want...)) {
			t.Fatalf("13.2: %q of %+v: %v, want %v", texts, test, got, want)
		}
		switch {
		case e != api.OK:
			counts[0]++
		case len(want) > 0 && len(want) < runs:
			counts[1]++
		default:
			counts[2]++
		}
	}
	if slices.Min(counts[:]) < 200 {
		t.Errorf("drawn too thin: %v", counts)
	}
}

// By cond.Sort: rising, each once, though many Runs come to one outcome.
func TestRisingEachOnce(t *testing.T) {
	t.Parallel()
	fewer := 0
	many(t, 501, 8, api.RISCV, func(test api.Test) {
		for _, text := range []string{"", model.Text(0), model.Text(test.Arch)} {
			got := allowed(t, test, text)
			for n := 1; n < len(got); n++ {
				if !cond.Less(got[n-1], got[n]) {
					t.Fatalf("13.2: %v is not rising", got)
				}
			}
			if len(got) < len(cand.Runs(test)) {
				fewer++
			}
		}
	})
	if fewer < 100 {
		t.Errorf("drawn too thin: only %d times do several Runs come to one outcome", fewer)
	}
}
