package cond_test

import (
	"math"
	"strconv"
	"testing"

	"belated/api"
	"belated/cond"
)

// printed fails if a row of nodes is not written as that text, or that is not
// read as the row.
func printed(t *testing.T, arch int, text string, cs ...api.Cond) {
	t.Helper()
	if got, e := cond.Print(arch, cs...); got != text || e != api.OK {
		t.Fatalf("8.4: Print(%d, %v) = %q, %d, want %q", arch, cs, got, e, text)
	}
	if got := parse(arch, words(t, text)...); !got.same(told{nodes: cs}) {
		t.Fatalf("8.7: %q is read as %v, was %v", text, got, cs)
	}
}

// 8.4: the leaves, by architecture.
func TestPrintLeaves(t *testing.T) {
	values := map[string]int{"0": 0, "1": 1, "-2": -2, "10": 10, "9223372036854775807": math.MaxInt, "-9223372036854775808": math.MinInt}
	for _, arch := range arches {
		for number, v := range values {
			for thread := range 3 {
				for r, name := range registerNames[arch] {
					printed(t, arch, strconv.Itoa(thread)+":"+name+"="+number, reg(thread, r, v))
				}
			}
			for l, name := range locationNames {
				printed(t, arch, name+"="+number, loc(l, v))
			}
		}
	}
}

// 8.4: brackets: those that are named and no others, for each mark within
// another one, on either side.
func TestPrintBrackets(t *testing.T) {
	a, b, c, d := leaf(loc(0, 1)), leaf(reg(1, 1, 2)), leaf(loc(2, -3)), leaf(reg(2, 7, 4))
	for text, tr := range map[string]*tree{
		`~a`: not(a), `~~a`: not(not(a)), `~(a /\ b)`: not(and(a, b)), `~(a \/ b)`: not(or(a, b)),
		`a /\ b`: and(a, b), `~a /\ b`: and(not(a), b), `a /\ ~b`: and(a, not(b)), `a /\ b /\ c`: and(and(a, b), c), `a /\ (b /\ c)`: and(a, and(b, c)), `(a \/ b) /\ c`: and(or(a, b), c), `a /\ (b \/ c)`: and(a, or(b, c)), `(a \/ b) /\ (c \/ d)`: and(or(a, b), or(c, d)), `a /\ b /\ (c /\ d)`: and(and(a, b), and(c, d)),
		`a \/ b`: or(a, b), `~a \/ b`: or(not(a), b), `a \/ ~b`: or(a, not(b)), `a \/ b \/ c`: or(or(a, b), c), `a \/ (b \/ c)`: or(a, or(b, c)), `a /\ b \/ c`: or(and(a, b), c), `a \/ b /\ c`: or(a, and(b, c)), `a /\ b \/ c /\ d`: or(and(a, b), and(c, d)), `a \/ b \/ (c \/ d)`: or(or(a, b), or(c, d)),
		`~~~a`: not(not(not(a))), `~~(a \/ b)`: not(not(or(a, b))), `~(a \/ b) /\ ~(c /\ d)`: and(not(or(a, b)), not(and(c, d))), `~(~a /\ ~(b \/ ~c))`: not(and(not(a), not(or(b, not(c))))),
		`a /\ (b /\ (c /\ d))`: and(a, and(b, and(c, d))), `a /\ b /\ c /\ d`: and(and(and(a, b), c), d), `a \/ (b \/ (c \/ d))`: or(a, or(b, or(c, d))), `a \/ b \/ c \/ d`: or(or(or(a, b), c), d), `a /\ (b \/ c /\ d)`: and(a, or(b, and(c, d))), `a \/ b /\ (c \/ d)`: or(a, and(b, or(c, d))),
	} {
		printed(t, api.X86, letters(text), tr.row()...)
	}
}

// 8.4: ErrArch comes ahead of ErrForm.
func TestPrintRefused(t *testing.T) {
	for _, arch := range []int{0, 4, -1, 5, math.MaxInt, math.MinInt, 1<<32 + 1} {
		for _, cs := range [][]api.Cond{nil, {loc(0, 1)}, {reg(0, 0, 1)}, {loc(3, 1)}, {nodeNot}, times(40, nodeNot)} {
			if text, e := cond.Print(arch, cs...); text != "" || e != api.ErrArch {
				t.Errorf("8.4: Print(%d, %v) = %q, %d", arch, cs, text, e)
			}
		}
	}
	for _, arch := range arches {
		if text, e := cond.Print(arch); text != "" || e != api.ErrForm {
			t.Errorf("8.4: Print(%d) of no nodes: %q, %d", arch, text, e)
		}
	}
}

// 8.7: what is printed is parsed as it was, and what was parsed is printed:
// all trees of up to seven nodes over a leaf, of up to five over two, and
// greater ones that are drawn.
func TestPrintedAndParsed(t *testing.T) {
	for n := 1; n <= 7; n++ {
		for _, tr := range trees(n, []api.Cond{reg(0, 3, 1)}) {
			thereAndBack(t, api.ARM, tr)
		}
	}
	for n := 1; n <= 5; n++ {
		for _, tr := range trees(n, []api.Cond{reg(2, 0, -1), loc(1, 0)}) {
			thereAndBack(t, api.RISCV, tr)
		}
	}
	d := drawn(87)
	values := []int{0, 1, -1, 256, math.MaxInt, math.MinInt}
	for range 20000 {
		thereAndBack(t, arches[d.below(3)], d.tree(1+d.below(api.MaxNodes), values))
	}
}

func thereAndBack(t *testing.T, arch int, tr *tree) {
	t.Helper()
	cs := tr.row()
	printed(t, arch, tr.text(arch), cs...)
	parsed(t, arch, tr.bracketed(arch), cs...)
}
