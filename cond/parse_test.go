package cond_test

import (
	"math"
	"slices"
	"strconv"
	"strings"
	"testing"

	"belated/api"
	"belated/cond"
)

// 8.3: the leaves, by architecture: each register, each location.
func TestParseLeaves(t *testing.T) {
	for _, arch := range arches {
		for thread := range 3 {
			for r, name := range registerNames[arch] {
				text := strconv.Itoa(thread) + ":" + name + "=7"
				parsed(t, arch, text, reg(thread, r, 7))
			}
		}
		for l, name := range locationNames {
			parsed(t, arch, name+"=7", loc(l, 7))
		}
	}
	for text, want := range map[string]api.Cond{
		"x=0": loc(0, 0), "x=-0": loc(0, 0), "x=-2": loc(0, -2), "x = - 2": loc(0, -2), "x=007": loc(0, 7), "x=0x10": loc(0, 16), "x=-0xFf": loc(0, -255),
		"x=9223372036854775807": loc(0, math.MaxInt), "x=-9223372036854775807": loc(0, -math.MaxInt), "x=-9223372036854775808": loc(0, math.MinInt), "x=9223372036854775808": loc(0, math.MinInt), "x=-0x8000000000000000": loc(0, math.MinInt),
		"0x1:RBX=1": reg(1, 1, 1), "002:RBX=1": reg(2, 1, 1), " 0 :\n RAX (* a *) =\t1 ": reg(0, 0, 1), "2:R9=-9223372036854775808": reg(2, 7, math.MinInt),
	} {
		parsed(t, api.X86, text, want)
	}
}

// parsed fails if a text is not read as these nodes.
func parsed(t *testing.T, arch int, text string, want ...api.Cond) {
	t.Helper()
	if got := parse(arch, words(t, text)...); !got.same(told{nodes: want}) {
		t.Errorf("8.3: Parse(%d, %q) = %v, want %v", arch, text, got, want)
	}
}

// letters lays leaves in for the letters a to d.
func letters(text string) string {
	return strings.NewReplacer("a", "x=1", "b", "1:RBX=2", "c", "z=-3", "d", "2:R9=4").Replace(text)
}

// binding is texts of a mark within another one, and how they are read.
func binding() map[string]*tree {
	a, b, c, d := leaf(loc(0, 1)), leaf(reg(1, 1, 2)), leaf(loc(2, -3)), leaf(reg(2, 7, 4))
	return map[string]*tree{
		`a`: a, `(a)`: a, `((a))`: a, `~a`: not(a), `~(a)`: not(a), `(~a)`: not(a), `~~a`: not(not(a)), `~(~a)`: not(not(a)), `(~(~(a)))`: not(not(a)), `~~~a`: not(not(not(a))),
		`a/\b`: and(a, b), `a\/b`: or(a, b), `(a /\ b)`: and(a, b), `(a)\/(b)`: or(a, b),
		`~a /\ b`: and(not(a), b), `(~a) /\ b`: and(not(a), b), `~(a /\ b)`: not(and(a, b)), `a /\ ~b`: and(a, not(b)), `a /\ (~b)`: and(a, not(b)), `~~a /\ ~~b`: and(not(not(a)), not(not(b))),
		`~a \/ b`: or(not(a), b), `(~a) \/ b`: or(not(a), b), `~(a \/ b)`: not(or(a, b)), `a \/ ~b`: or(a, not(b)), `a \/ (~b)`: or(a, not(b)), `~~(a \/ b)`: not(not(or(a, b))),
		`a /\ b /\ c`: and(and(a, b), c), `(a /\ b) /\ c`: and(and(a, b), c), `a /\ (b /\ c)`: and(a, and(b, c)),
		`a \/ b \/ c`: or(or(a, b), c), `(a \/ b) \/ c`: or(or(a, b), c), `a \/ (b \/ c)`: or(a, or(b, c)),
		`a /\ b \/ c`: or(and(a, b), c), `(a /\ b) \/ c`: or(and(a, b), c), `a /\ (b \/ c)`: and(a, or(b, c)),
		`a \/ b /\ c`: or(a, and(b, c)), `a \/ (b /\ c)`: or(a, and(b, c)), `(a \/ b) /\ c`: and(or(a, b), c),
		`~a /\ ~b \/ ~c`: or(and(not(a), not(b)), not(c)), `~(a /\ b) \/ c`: or(not(and(a, b)), c), `~(~a /\ b \/ c)`: not(or(and(not(a), b), c)), `a /\ ~(b \/ c)`: and(a, not(or(b, c))),
		`a /\ b /\ c /\ d`: and(and(and(a, b), c), d), `a /\ (b /\ (c /\ d))`: and(a, and(b, and(c, d))), `a \/ b \/ c \/ d`: or(or(or(a, b), c), d), `a \/ (b \/ (c \/ d))`: or(a, or(b, or(c, d))),
		`a /\ b \/ c /\ d`: or(and(a, b), and(c, d)), `a \/ b /\ c \/ d`: or(or(a, and(b, c)), d), `a /\ b /\ c \/ d`: or(and(and(a, b), c), d), `a \/ b /\ c /\ d`: or(a, and(and(b, c), d)), `(a \/ b) /\ (c \/ d)`: and(or(a, b), or(c, d)), `a /\ (b \/ c) /\ d`: and(and(a, or(b, c)), d), `a \/ b \/ c /\ d`: or(or(a, b), and(c, d)),
		`((a) /\ ((b)))\/~((c))`: or(and(a, b), not(c)),
	}
}

// 8.3: what binds most, and from the left.
func TestParseBinding(t *testing.T) {
	for text, want := range binding() {
		parsed(t, api.X86, letters(text), want.row()...)
	}
}

// 8.3: what is refused, and where.
func TestParseRefused(t *testing.T) {
	for _, x := range []struct {
		arch int
		text string
		e    api.Errno
		at   int
	}{
		{api.X86, "", api.ErrEnd, 0}, {api.X86, "  (* a *) ", api.ErrEnd, 0},
		// a text cut off behind each of its words
		{api.X86, "0", api.ErrEnd, 1}, {api.X86, "0:", api.ErrEnd, 2}, {api.X86, "0:RAX", api.ErrEnd, 5}, {api.X86, "0:RAX=", api.ErrEnd, 6}, {api.X86, "0:RAX=-", api.ErrEnd, 7},
		{api.X86, "x", api.ErrEnd, 1}, {api.X86, " x ", api.ErrEnd, 2}, {api.X86, "x=", api.ErrEnd, 2}, {api.X86, "x=- ", api.ErrEnd, 3}, {api.X86, "~", api.ErrEnd, 1}, {api.X86, "~~ ", api.ErrEnd, 2}, {api.X86, "(", api.ErrEnd, 1}, {api.X86, "(~", api.ErrEnd, 2}, {api.X86, "(x=1", api.ErrEnd, 4}, {api.X86, "((x=1)", api.ErrEnd, 6}, {api.X86, `x=1 /\`, api.ErrEnd, 6}, {api.X86, `x=1 \/ `, api.ErrEnd, 6}, {api.X86, `(x=1 \/`, api.ErrEnd, 7}, {api.X86, `(x=1 /\ y=1`, api.ErrEnd, 11}, {api.X86, `(x=1) /\ ~`, api.ErrEnd, 10},
		// names that are not known
		{api.X86, "w=1", api.ErrWord, 0}, {api.X86, "X=1", api.ErrWord, 0}, {api.X86, "xx=1", api.ErrWord, 0}, {api.X86, "x.=1", api.ErrWord, 0}, {api.X86, "_", api.ErrWord, 0}, {api.X86, "RAX=1", api.ErrWord, 0}, {api.X86, " RAX", api.ErrWord, 1}, {api.X86, "exists", api.ErrWord, 0}, {api.X86, `x=1 /\ w=1`, api.ErrWord, 7}, {api.X86, "~(w", api.ErrWord, 2},
		{api.X86, "0:RXX=1", api.ErrWord, 2}, {api.X86, "0:x=1", api.ErrWord, 2}, {api.X86, "0:rax=1", api.ErrWord, 2}, {api.X86, "0:RA", api.ErrWord, 2}, {api.X86, "0:RAXX", api.ErrWord, 2}, {api.X86, "0:R10=1", api.ErrWord, 2}, {api.X86, `x=1 \/ (2:w`, api.ErrWord, 10},
		// registers of another architecture
		{api.X86, "0:a0=1", api.ErrWord, 2}, {api.X86, "0:X0=1", api.ErrWord, 2}, {api.RISCV, "0:RAX=1", api.ErrWord, 2}, {api.RISCV, "0:X0=1", api.ErrWord, 2}, {api.RISCV, "0:a8=1", api.ErrWord, 2}, {api.ARM, "0:RAX=1", api.ErrWord, 2}, {api.ARM, "0:a0=1", api.ErrWord, 2}, {api.ARM, "0:X8=1", api.ErrWord, 2}, {api.ARM, "X0=1", api.ErrWord, 0},
		// threads that are none
		{api.X86, "3:RAX=1", api.ErrForm, 0}, {api.X86, "3", api.ErrForm, 0}, {api.X86, " 4:w", api.ErrForm, 1}, {api.X86, "9223372036854775807:RAX=1", api.ErrForm, 0}, {api.X86, "9223372036854775808:RAX=1", api.ErrForm, 0}, {api.X86, "0x100000000:RAX=1", api.ErrForm, 0}, {api.X86, "-1:RAX=1", api.ErrForm, 0}, {api.X86, "-0:RAX=1", api.ErrForm, 0}, {api.X86, "- 9223372036854775808:RAX=1", api.ErrForm, 0}, {api.X86, `x=1 /\ 3:RAX=1`, api.ErrForm, 7}, {api.X86, "(~3:RAX=1)", api.ErrForm, 2},
		// numbers for names, names for numbers, other words
		{api.X86, "0:5=1", api.ErrForm, 2}, {api.X86, "0:=1", api.ErrForm, 2}, {api.X86, "0:-1", api.ErrForm, 2}, {api.X86, "0:(RAX)=1", api.ErrForm, 2}, {api.X86, "x=y", api.ErrForm, 2}, {api.X86, "x=w", api.ErrForm, 2}, {api.X86, "0:RAX=RBX", api.ErrForm, 6}, {api.X86, "x=-y", api.ErrForm, 3}, {api.X86, "x=--1", api.ErrForm, 3}, {api.X86, "x=+1", api.ErrForm, 2}, {api.X86, "x=$1", api.ErrForm, 2}, {api.X86, "x=(1)", api.ErrForm, 2}, {api.X86, "x==1", api.ErrForm, 2}, {api.X86, "x=~1", api.ErrForm, 2},
		{api.X86, "0 RAX=1", api.ErrForm, 2}, {api.X86, "0=1", api.ErrForm, 1}, {api.X86, "0;", api.ErrForm, 1}, {api.X86, "0:RAX 1", api.ErrForm, 6}, {api.X86, "0:RAX:1", api.ErrForm, 5}, {api.X86, "x 1", api.ErrForm, 2}, {api.X86, "x y", api.ErrForm, 2}, {api.X86, "x:1", api.ErrForm, 1}, {api.X86, "x~=1", api.ErrForm, 1}, {api.X86, "x)", api.ErrForm, 1},
		{api.X86, "=", api.ErrForm, 0}, {api.X86, ")", api.ErrForm, 0}, {api.X86, " ;", api.ErrForm, 1}, {api.X86, `/\`, api.ErrForm, 0}, {api.X86, `\/ x=1`, api.ErrForm, 0}, {api.X86, "[x]=1", api.ErrForm, 0}, {api.X86, `x=1 /\ \/ y=1`, api.ErrForm, 7}, {api.X86, `x=1 /\ /\ y=1`, api.ErrForm, 7}, {api.X86, `~/\ x=1`, api.ErrForm, 1}, {api.X86, `x=1 \/ )`, api.ErrForm, 7}, {api.X86, `~)`, api.ErrForm, 1}, {api.X86, "/", api.ErrForm, 0}, {api.X86, "*", api.ErrForm, 0},
		// brackets
		{api.X86, "()", api.ErrForm, 1}, {api.X86, "(())", api.ErrForm, 2}, {api.X86, "~()", api.ErrForm, 2}, {api.X86, `x=1 /\ ()`, api.ErrForm, 8}, {api.X86, "(x=1 y=1", api.ErrForm, 5}, {api.X86, "(x=1 y=1)", api.ErrForm, 5}, {api.X86, "(x=1(", api.ErrForm, 4}, {api.X86, "(x=1]", api.ErrForm, 4}, {api.X86, "(x=1 ~", api.ErrForm, 5}, {api.X86, "(x=1 5", api.ErrForm, 5}, {api.X86, "((x=1)y=1)", api.ErrForm, 6}, {api.X86, `(x=1 /\ y=1;`, api.ErrForm, 11}, {api.X86, `(x=1 /\)`, api.ErrForm, 7},
		// a word too many
		{api.X86, "x=1 y=1", api.ErrMore, 4}, {api.X86, "x=1)", api.ErrMore, 3}, {api.X86, "(x=1))", api.ErrMore, 5}, {api.X86, "x=1 (y=1)", api.ErrMore, 4}, {api.X86, "x=1 ~y=1", api.ErrMore, 4}, {api.X86, "x=1 2", api.ErrMore, 4}, {api.X86, "x=1-2", api.ErrMore, 3}, {api.X86, "x=1;", api.ErrMore, 3}, {api.X86, "x=1=1", api.ErrMore, 3}, {api.X86, "x=1 w", api.ErrMore, 4}, {api.X86, `x=1 / y=1`, api.ErrMore, 4}, {api.X86, `x=1 & y=1`, api.ErrMore, 4}, {api.X86, `(x=1) /\ y=1 )`, api.ErrMore, 13}, {api.X86, `x=9223372036854775808 y`, api.ErrMore, 22}, {api.X86, "0:RAX=1 1:RAX=1", api.ErrMore, 8}, {api.X86, "~x=1 ~", api.ErrMore, 5},
	} {
		if got := parse(x.arch, words(t, x.text)...); !got.same(told{e: x.e, at: x.at}) {
			t.Errorf("8.3: Parse(%d, %q) = %v, want %d at %d", x.arch, x.text, got, x.e, x.at)
		}
	}
}

// 8.3: an architecture that is none, whatever the words are.
func TestParseArch(t *testing.T) {
	for _, arch := range []int{0, 4, -1, 5, math.MaxInt, math.MinInt, 1<<32 + 1} {
		for _, text := range []string{"", "x=1", " 0:RAX=1", "w", "x=1 y", "(", strings.Repeat("~", 40) + "x=1"} {
			if got := parse(arch, words(t, text)...); !got.same(told{e: api.ErrArch}) {
				t.Errorf("8.3: Parse(%d, %q) = %v", arch, text, got)
			}
		}
	}
	if nodes, e, at := cond.Parse(api.X86); len(nodes) != 0 || e != api.ErrEnd || at != 0 {
		t.Errorf("8.3: Parse of no words: %v, %d, %d", nodes, e, at)
	}
}

// 8.3: MaxNodes nodes, one more; all other faults come ahead of that.
func TestParseLong(t *testing.T) {
	most := map[string]int{
		strings.Repeat("~", 31) + "x=0":                                        32,
		strings.Repeat(`x=0 /\ `, 15) + "~x=0":                                 32,
		"~" + strings.Repeat(`(x=0 \/ `, 15) + "x=0" + strings.Repeat(")", 15): 32,
		"(" + strings.Repeat(`x=0 /\ y=0 \/ `, 7) + "(~((x=0)) /\\ 0:RAX=0))":  32,
	}
	for text, n := range most {
		got := parse(api.X86, words(t, text)...)
		if got.e != api.OK || got.at != 0 || len(got.nodes) != n || !cond.Right(got.nodes...) {
			t.Errorf("8.3: Parse(%q) = %v", text, got)
		}
		for _, x := range []struct {
			text string
			e    api.Errno
			at   int
		}{
			{"  ~(" + text + ")", api.ErrLong, 2}, {"(" + text + `) /\ z=1`, api.ErrLong, 0}, {" (* a *)\n(" + text + `) \/ (` + text + ")", api.ErrLong, 9}, {"~~~~(" + text + ")", api.ErrLong, 0},
			{"~(" + text + ") x", api.ErrMore, len(text) + 4}, {"~(" + text, api.ErrEnd, len(text) + 2}, {"~(" + text + `) /\ w`, api.ErrWord, len(text) + 7}, {"~(" + text + `) /\ 3`, api.ErrForm, len(text) + 7}, {"~(" + text + " x", api.ErrForm, len(text) + 3},
		} {
			if got := parse(api.X86, words(t, x.text)...); !got.same(told{e: x.e, at: x.at}) {
				t.Errorf("8.3: Parse(%q) = %v, want %d at %d", x.text, got, x.e, x.at)
			}
		}
	}
}

// row is words by hand, one byte apart: more than a text may have.
func row(texts ...string) []api.Token {
	var ts []api.Token
	at := 0
	for _, text := range texts {
		word := api.Token{Kind: api.TokMark, Text: text, At: at}
		switch {
		case text == "x":
			word.Kind = api.TokName
		case text == "1":
			word.Kind, word.N = api.TokNumber, 1
		}
		ts = append(ts, word)
		at += len(text) + 1
	}
	return ts
}

// 8.3: many within one another, and many in a row.
func TestParseDeep(t *testing.T) {
	const deep = 1 << 16
	leaf := []string{"x", "=", "1"}
	opened, closed := slices.Repeat([]string{"("}, deep), slices.Repeat([]string{")"}, deep)
	if got := parse(api.ARM, row(slices.Concat(opened, leaf, closed)...)...); !got.same(told{nodes: []api.Cond{loc(0, 1)}}) {
		t.Errorf("8.3: of %d brackets: %d at %d", deep, got.e, got.at)
	}
	if got := parse(api.ARM, row(slices.Concat(opened, leaf)...)...); !got.same(told{e: api.ErrEnd, at: 2*deep + 5}) {
		t.Errorf("8.3: of brackets that are not closed: %d at %d", got.e, got.at)
	}
	if got := parse(api.ARM, row(slices.Concat(opened, leaf, closed, closed[:1])...)...); !got.same(told{e: api.ErrMore, at: 4*deep + 6}) {
		t.Errorf("8.3: of one that was not opened: %d at %d", got.e, got.at)
	}
	if got := parse(api.ARM, row(opened...)...); !got.same(told{e: api.ErrEnd, at: 2*deep - 1}) {
		t.Errorf("8.3: of brackets alone: %d at %d", got.e, got.at)
	}
	for _, marks := range [][]string{{"~"}, {"~", "("}} {
		many := slices.Repeat(marks, deep/2)
		ends := slices.Repeat([]string{")"}, (len(marks)-1)*deep/2)
		if got := parse(api.ARM, row(slices.Concat(many, leaf, ends)...)...); !got.same(told{e: api.ErrLong}) {
			t.Errorf("8.3: of many %q: %d at %d", marks, got.e, got.at)
		}
	}
	for _, mark := range []string{`/\`, `\/`} {
		many := slices.Repeat(append(slices.Clone(leaf), mark), deep)
		if got := parse(api.ARM, row(slices.Concat(many, leaf)...)...); !got.same(told{e: api.ErrLong}) {
			t.Errorf("8.3: of many %q: %d at %d", mark, got.e, got.at)
		}
	}
}

// vocabulary is a word of each sort.
var vocabulary = strings.Fields(`( ) ~ /\ \/ x w RAX a0 X0 0 2 3 9223372036854775808 : = - ; /`)

// sameParse fails if Parse tells something else than the model.
func sameParse(t *testing.T, arch int, ts []api.Token) {
	t.Helper()
	if got, want := parse(arch, ts...), modelParse(arch, ts); !got.same(want) {
		var texts []string
		for _, word := range ts {
			texts = append(texts, word.Text)
		}
		t.Fatalf("8.3: Parse(%d, %q) = %v, want %v", arch, texts, got, want)
	}
}

// laid is words by their texts, with blanks between.
func laid(t *testing.T, texts []string) []api.Token {
	t.Helper()
	return words(t, strings.Join(texts, " "))
}

// 8.3: all rows of up to four words; then, of texts of many forms, all that
// are cut off, that have a word less, more, another one, or two turned.
func TestParseByModel(t *testing.T) {
	var each func(texts []string)
	each = func(texts []string) {
		sameParse(t, api.X86, laid(t, texts))
		if len(texts) < 4 {
			for _, word := range vocabulary {
				each(append(texts[:len(texts):len(texts)], word))
			}
		}
	}
	each(nil)
	for text := range binding() {
		var texts []string
		for _, word := range words(t, letters(text)) {
			texts = append(texts, word.Text)
		}
		for _, arch := range arches {
			spoilt(t, arch, texts)
		}
	}
}

func spoilt(t *testing.T, arch int, texts []string) {
	t.Helper()
	sameParse(t, arch, laid(t, texts))
	for k := range texts {
		sameParse(t, arch, laid(t, texts[:k]))
		sameParse(t, arch, laid(t, slices.Delete(slices.Clone(texts), k, k+1)))
		for _, word := range vocabulary {
			sameParse(t, arch, laid(t, slices.Insert(slices.Clone(texts), k, word)))
			other := slices.Clone(texts)
			other[k] = word
			sameParse(t, arch, laid(t, other))
		}
		turned := slices.Clone(texts)
		turned[0], turned[k] = turned[k], turned[0]
		sameParse(t, arch, laid(t, turned))
	}
	for _, word := range vocabulary {
		sameParse(t, arch, laid(t, append(slices.Clone(texts), word)))
	}
}

// 8.3: drawn texts, and drawn words.
func TestParseDrawn(t *testing.T) {
	d := drawn(83)
	for range 30000 {
		arch := arches[d.below(3)]
		tr := d.tree(1+d.below(40), []int{0, 1, -7, math.MaxInt, math.MinInt})
		texts := []string{tr.text(arch), tr.bracketed(arch)}
		ts := words(t, texts[d.below(2)])
		sameParse(t, arch, ts)
		k := d.below(len(ts))
		sameParse(t, arch, ts[:k])
		sameParse(t, arch, slices.Delete(slices.Clone(ts), k, k+1))
		some := make([]string, d.below(12))
		for k := range some {
			some[k] = vocabulary[d.below(len(vocabulary))]
		}
		sameParse(t, arch, laid(t, some))
	}
}
