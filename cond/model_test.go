package cond_test

import (
	"slices"
	"strconv"
	"strings"
	"testing"

	"belated/api"
	"belated/cond"
	"belated/scan"
)

// The model: a condition as a tree, and texts read from the left by a call
// for each level of what binds. It shares nothing with the package.

var arches = []int{api.X86, api.RISCV, api.ARM}

var registerNames = map[int][]string{
	api.X86:   strings.Fields("RAX RBX RCX RDX RSI RDI R8 R9"),
	api.RISCV: strings.Fields("a0 a1 a2 a3 a4 a5 a6 a7"),
	api.ARM:   strings.Fields("X0 X1 X2 X3 X4 X5 X6 X7"),
}

var locationNames = []string{"x", "y", "z"}

// tree is a node with its parts.
type tree struct {
	api.Cond
	parts []*tree
}

func reg(thread, r, v int) api.Cond {
	return api.Cond{Kind: api.CondReg, Thread: thread, Reg: r, Value: v}
}

func loc(l, v int) api.Cond { return api.Cond{Kind: api.CondLoc, Loc: l, Value: v} }

func kind(k int) api.Cond { return api.Cond{Kind: k} }

func leaf(c api.Cond) *tree { return &tree{Cond: c} }

func not(a *tree) *tree { return &tree{kind(api.CondNot), []*tree{a}} }

func and(a, b *tree) *tree { return &tree{kind(api.CondAnd), []*tree{a, b}} }

func or(a, b *tree) *tree { return &tree{kind(api.CondOr), []*tree{a, b}} }

// row is a tree's nodes, each behind its parts.
func (t *tree) row() []api.Cond {
	var nodes []api.Cond
	for _, part := range t.parts {
		nodes = append(nodes, part.row()...)
	}
	return append(nodes, t.Cond)
}

// holds is 8.2.
func (t *tree) holds(o api.Outcome) bool {
	switch t.Kind {
	case api.CondReg:
		return o.Regs[t.Thread][t.Reg] == t.Value
	case api.CondLoc:
		return o.Mem[t.Loc] == t.Value
	case api.CondNot:
		return !t.parts[0].holds(o)
	case api.CondAnd:
		return t.parts[0].holds(o) && t.parts[1].holds(o)
	}
	return t.parts[0].holds(o) || t.parts[1].holds(o)
}

// text is 8.4, brackets where they are named.
func (t *tree) text(arch int) string {
	switch t.Kind {
	case api.CondReg:
		return strconv.Itoa(t.Thread) + ":" + registerNames[arch][t.Reg] + "=" + strconv.Itoa(t.Value)
	case api.CondLoc:
		return locationNames[t.Loc] + "=" + strconv.Itoa(t.Value)
	case api.CondNot:
		return "~" + t.part(arch, 0, t.parts[0].Kind == api.CondAnd || t.parts[0].Kind == api.CondOr)
	}
	left, right := t.parts[0].Kind, t.parts[1].Kind
	if t.Kind == api.CondAnd {
		return t.part(arch, 0, left == api.CondOr) + ` /\ ` + t.part(arch, 1, right == api.CondOr || right == api.CondAnd)
	}
	return t.part(arch, 0, false) + ` \/ ` + t.part(arch, 1, right == api.CondOr)
}

func (t *tree) part(arch, n int, brackets bool) string {
	if brackets {
		return "(" + t.parts[n].text(arch) + ")"
	}
	return t.parts[n].text(arch)
}

// bracketed is a text with brackets around each part, and around the whole.
func (t *tree) bracketed(arch int) string {
	switch t.Kind {
	case api.CondNot:
		return "(~" + t.parts[0].bracketed(arch) + ")"
	case api.CondAnd:
		return "(" + t.parts[0].bracketed(arch) + `/\` + t.parts[1].bracketed(arch) + ")"
	case api.CondOr:
		return "(" + t.parts[0].bracketed(arch) + `\/` + t.parts[1].bracketed(arch) + ")"
	}
	return "(" + t.text(arch) + ")"
}

// told is all that Parse tells.
type told struct {
	nodes []api.Cond
	e     api.Errno
	at    int
}

func parse(arch int, ts ...api.Token) told {
	nodes, e, at := cond.Parse(arch, ts...)
	return told{nodes, e, at}
}

func (a told) same(b told) bool {
	return slices.Equal(a.nodes, b.nodes) && a.e == b.e && a.at == b.at
}

func words(t *testing.T, text string) []api.Token {
	t.Helper()
	ts, e, at := scan.Tokens(text)
	if e != api.OK {
		t.Fatalf("%q is no row of words: %d at %d", text, e, at)
	}
	return ts
}

// descent reads words by 8.3, a call a level; a fault is thrown.
type descent struct {
	arch int
	ts   []api.Token
	end  int
}

type fault struct {
	e  api.Errno
	at int
}

// modelParse is what Parse must tell of words that scan tells.
func modelParse(arch int, ts []api.Token) (answer told) {
	if registerNames[arch] == nil {
		return told{e: api.ErrArch}
	}
	d := &descent{arch: arch, ts: ts}
	if len(ts) > 0 {
		last := ts[len(ts)-1]
		d.end = last.At + len(last.Text)
	}
	defer func() {
		if f, ok := recover().(fault); ok {
			answer = told{e: f.e, at: f.at}
		}
	}()
	nodes := d.some().row()
	if len(d.ts) > 0 {
		panic(fault{api.ErrMore, d.ts[0].At})
	}
	if len(nodes) > api.MaxNodes {
		panic(fault{api.ErrLong, ts[0].At})
	}
	return told{nodes: nodes}
}

// some is parts with `\/` between.
func (d *descent) some() *tree {
	t := d.all()
	for d.is(`\/`) {
		d.ts = d.ts[1:]
		t = or(t, d.all())
	}
	return t
}

// all is parts with `/\` between.
func (d *descent) all() *tree {
	t := d.one()
	for d.is(`/\`) {
		d.ts = d.ts[1:]
		t = and(t, d.one())
	}
	return t
}

func (d *descent) one() *tree {
	word := d.next()
	switch {
	case word.Kind == api.TokMark && word.Text == "~":
		return not(d.one())
	case word.Kind == api.TokMark && word.Text == "(":
		t := d.some()
		d.must(")")
		return t
	case word.Kind == api.TokNumber && word.N >= 0 && word.N <= 2:
		d.must(":")
		r := d.name(registerNames[d.arch])
		d.must("=")
		return leaf(reg(word.N, r, d.number()))
	case word.Kind == api.TokName:
		l := slices.Index(locationNames, word.Text)
		if l < 0 {
			panic(fault{api.ErrWord, word.At})
		}
		d.must("=")
		return leaf(loc(l, d.number()))
	}
	panic(fault{api.ErrForm, word.At})
}

func (d *descent) is(text string) bool {
	return len(d.ts) > 0 && d.ts[0].Kind == api.TokMark && d.ts[0].Text == text
}

func (d *descent) next() api.Token {
	if len(d.ts) == 0 {
		panic(fault{api.ErrEnd, d.end})
	}
	word := d.ts[0]
	d.ts = d.ts[1:]
	return word
}

func (d *descent) must(text string) {
	if word := d.next(); word.Kind != api.TokMark || word.Text != text {
		panic(fault{api.ErrForm, word.At})
	}
}

func (d *descent) name(names []string) int {
	word := d.next()
	if word.Kind != api.TokName {
		panic(fault{api.ErrForm, word.At})
	}
	n := slices.Index(names, word.Text)
	if n < 0 {
		panic(fault{api.ErrWord, word.At})
	}
	return n
}

func (d *descent) number() int {
	sign := 1
	if d.is("-") {
		d.next()
		sign = -1
	}
	word := d.next()
	if word.Kind != api.TokNumber {
		panic(fault{api.ErrForm, word.At})
	}
	return sign * word.N
}

// trees is all trees of just n nodes over these leaves.
func trees(n int, leaves []api.Cond) []*tree {
	if n < 1 {
		return nil
	}
	var all []*tree
	if n == 1 {
		for _, c := range leaves {
			all = append(all, leaf(c))
		}
		return all
	}
	for _, a := range trees(n-1, leaves) {
		all = append(all, not(a))
	}
	for k := 1; k < n-1; k++ {
		rights := trees(n-1-k, leaves)
		for _, a := range trees(k, leaves) {
			for _, b := range rights {
				all = append(all, and(a, b), or(a, b))
			}
		}
	}
	return all
}

// drawn is a row of numbers that is the same at each run.
type drawn uint64

// below is the next one of it, 0 to n-1.
func (d *drawn) below(n int) int {
	*d = *d*6364136223846793005 + 1442695040888963407
	return int(uint64(*d) >> 33 % uint64(n))
}

// node is a leaf out of all that there are.
func (d *drawn) node(values []int) api.Cond {
	v := values[d.below(len(values))]
	if d.below(2) == 0 {
		return loc(d.below(3), v)
	}
	return reg(d.below(3), d.below(8), v)
}

// tree is one of just n nodes.
func (d *drawn) tree(n int, values []int) *tree {
	if n == 1 {
		return leaf(d.node(values))
	}
	if n == 2 || d.below(4) == 0 {
		return not(d.tree(n-1, values))
	}
	k := 1 + d.below(n-2)
	a, b := d.tree(k, values), d.tree(n-1-k, values)
	if d.below(2) == 0 {
		return and(a, b)
	}
	return or(a, b)
}

// outcome is one whose numbers are out of a few.
func (d *drawn) outcome(values []int) api.Outcome {
	var o api.Outcome
	for thread := range o.Regs {
		for r := range o.Regs[thread] {
			o.Regs[thread][r] = values[d.below(len(values))]
		}
	}
	for l := range o.Mem {
		o.Mem[l] = values[d.below(len(values))]
	}
	return o
}
