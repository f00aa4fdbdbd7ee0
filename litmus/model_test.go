package litmus_test

import (
	"fmt"
	"slices"
	"strings"
	"testing"

	"belated/api"
	"belated/arm"
	"belated/cond"
	"belated/litmus"
	"belated/riscv"
	"belated/scan"
	"belated/uir"
	"belated/x86"
)

// The model: chapter 9 by itself, over the layers below. It shares nothing
// with the package.

var arches = []int{api.X86, api.RISCV, api.ARM}

var archNames = map[int]string{api.X86: "X86", api.RISCV: "RISCV", api.ARM: "ARM"}

var quants = []int{api.Exists, api.NotExists, api.Forall}

var quantNames = map[int]string{api.Exists: "exists", api.NotExists: "~ exists", api.Forall: "forall"}

var registerNames = map[int][]string{
	api.X86:   strings.Fields("RAX RBX RCX RDX RSI RDI R8 R9"),
	api.RISCV: strings.Fields("a0 a1 a2 a3 a4 a5 a6 a7"),
	api.ARM:   strings.Fields("X0 X1 X2 X3 X4 X5 X6 X7"),
}

var locationNames = []string{"x", "y", "z"}

// told is all that Parse tells.
type told struct {
	test api.Test
	e    api.Errno
	at   int
}

func parse(text string) told {
	test, e, at := litmus.Parse(text)
	return told{test, e, at}
}

func (a told) same(b told) bool {
	return same(a.test, b.test) && a.e == b.e && a.at == b.at
}

// same tells whether two tests are equal; an empty list may be nil or not.
func same(a, b api.Test) bool {
	return a.Arch == b.Arch && a.Name == b.Name && a.Init == b.Init && a.Regs == b.Regs && a.Quant == b.Quant &&
		slices.Equal(a.Cond, b.Cond) && slices.EqualFunc(a.Code, b.Code, func(c, d []api.Ins) bool { return slices.Equal(c, d) })
}

// clone is a test that shares nothing with t.
func clone(t api.Test) api.Test {
	t.Cond = slices.Clone(t.Cond)
	t.Code = slices.Clone(t.Code)
	for n := range t.Code {
		t.Code[n] = slices.Clone(t.Code[n])
	}
	return t
}

func parseIns(arch int, ts []api.Token) (api.Ins, string, api.Errno, int) {
	switch arch {
	case api.X86:
		return x86.Parse(ts...)
	case api.RISCV:
		return riscv.Parse(ts...)
	}
	return arm.Parse(ts...)
}

func printIns(arch int, i api.Ins, label string) (string, api.Errno) {
	switch arch {
	case api.X86:
		return x86.Print(i, label)
	case api.RISCV:
		return riscv.Print(i, label)
	}
	return arm.Print(i, label)
}

// modelCheck is 9.1.
func modelCheck(t api.Test) api.Errno {
	ts, e, _ := scan.Tokens(t.Name)
	isName := e == api.OK && len(ts) == 1 && ts[0].Kind == api.TokName && ts[0].Text == t.Name
	_, _, codes := uir.Check(t.Code...)
	switch {
	case archNames[t.Arch] == "":
		return api.ErrArch
	case !isName || len(t.Name) > 16:
		return api.ErrName
	case codes != api.OK:
		return codes
	}
	for _, i := range slices.Concat(t.Code...) {
		if _, e := printIns(t.Arch, i, "L"); e != api.OK {
			return api.ErrArch
		}
	}
	if quantNames[t.Quant] == "" || !cond.Right(t.Cond...) {
		return api.ErrForm
	}
	for thread := len(t.Code); thread < 3; thread++ {
		for _, value := range t.Regs[thread] {
			if value != 0 {
				return api.ErrArg
			}
		}
	}
	return api.OK
}

// modelPrint is 9.4, of a right test: a table of cells, written row by row.
func modelPrint(t api.Test) string {
	var b strings.Builder
	fmt.Fprintf(&b, "%s %s\n{ ", archNames[t.Arch], t.Name)
	for l, v := range t.Init {
		if v != 0 {
			fmt.Fprintf(&b, "%s=%d; ", locationNames[l], v)
		}
	}
	for thread, regs := range t.Regs {
		for r, v := range regs {
			if v != 0 {
				fmt.Fprintf(&b, "%d:%s=%d; ", thread, registerNames[t.Arch][r], v)
			}
		}
	}
	b.WriteString("}\n")
	var cells [10][]string
	height := 0
	for n := range cells {
		cells[n] = make([]string, len(t.Code))
	}
	for thread, code := range t.Code {
		cells[0][thread] = fmt.Sprintf("P%d", thread)
		height = max(height, len(code))
		for k, i := range code {
			text, _ := printIns(t.Arch, i, fmt.Sprintf("L%d", i.To))
			cells[k+1][thread] += text
		}
		for k := range len(code) + 1 {
			if !slices.ContainsFunc(code, func(i api.Ins) bool { return i.Op == api.OpBranch && i.To == k }) {
				continue
			}
			cells[k+1][thread] = strings.TrimRight(fmt.Sprintf("L%d: %s", k, cells[k+1][thread]), " ")
			height = max(height, k+1)
		}
	}
	for _, row := range cells[:height+1] {
		fmt.Fprintf(&b, "%s ;\n", strings.Join(row, " | "))
	}
	claim, _ := cond.Print(t.Arch, t.Cond...)
	fmt.Fprintf(&b, "%s (%s)\n", quantNames[t.Quant], claim)
	return b.String()
}

// descent reads a text's words from the left; a fault is thrown.
type descent struct {
	ts   []api.Token
	end  int
	test api.Test
}

type fault struct {
	e  api.Errno
	at int
}

// goal is a branch that was read: which one, what it names, where it stands.
type goal struct {
	label string
	at    int
}

// modelParse is 9.3.
func modelParse(text string) (answer told) {
	ts, e, at := scan.Tokens(text)
	if e != api.OK {
		return told{e: e, at: at}
	}
	d := &descent{ts: ts, end: len(text)}
	defer func() {
		if r := recover(); r != nil {
			f := r.(fault)
			answer = told{e: f.e, at: f.at}
		}
	}()
	d.begin()
	goals, labels := d.codes()
	d.last()
	d.link(goals, labels)
	if e := modelCheck(d.test); e == api.ErrIns || e == api.ErrTarget {
		thread, k, _ := uir.Check(d.test.Code...)
		panic(fault{e, goals[thread][k].at})
	} else if e != api.OK {
		panic(fault{e, 0})
	}
	return told{test: d.test}
}

// word is the one n behind the next one; an empty one behind the end.
func (d *descent) word(n int) api.Token {
	if n < len(d.ts) {
		return d.ts[n]
	}
	return api.Token{At: d.end}
}

// pop goes past the next word, which there must be.
func (d *descent) pop() api.Token {
	word := d.word(0)
	d.must(len(d.ts) > 0, api.ErrEnd, word)
	d.ts = d.ts[1:]
	return word
}

func (d *descent) must(holds bool, e api.Errno, word api.Token) {
	if !holds {
		panic(fault{e, word.At})
	}
}

// just goes past a word that must have that text.
func (d *descent) just(text string) {
	word := d.pop()
	d.must(word.Text == text, api.ErrForm, word)
}

func (d *descent) name(names []string) int {
	word := d.pop()
	d.must(word.Kind == api.TokName, api.ErrForm, word)
	n := slices.Index(names, word.Text)
	d.must(n >= 0, api.ErrWord, word)
	return n
}

func (d *descent) number() int {
	word, sign := d.pop(), 1
	if word.Text == "-" {
		word, sign = d.pop(), -1
	}
	d.must(word.Kind == api.TokNumber, api.ErrForm, word)
	return sign * word.N
}

// begin reads all ahead of the head.
func (d *descent) begin() {
	d.test.Arch = arches[d.name([]string{"X86", "RISCV", "ARM"})]
	word := d.pop()
	d.must(word.Kind == api.TokName && len(word.Text) <= 16, api.ErrForm, word)
	d.test.Name = word.Text
	d.just("{")
	set := map[string]bool{}
	for d.word(0).Text != "}" {
		first := d.word(0)
		holder := &d.test.Init[0]
		key := first.Text
		if first.Kind == api.TokNumber {
			d.pop()
			d.must(first.N >= 0 && first.N <= 2, api.ErrForm, first)
			d.just(":")
			r := d.name(registerNames[d.test.Arch])
			holder = &d.test.Regs[first.N][r]
			key = fmt.Sprint(first.N, r)
		} else {
			holder = &d.test.Init[d.name(locationNames)]
		}
		d.must(!set[key], api.ErrTwice, first)
		set[key] = true
		d.just("=")
		*holder = d.number()
		d.just(";")
	}
	d.just("}")
}

// codes reads the head and the rows: by thread, what its branches name, and
// where its labels stand.
func (d *descent) codes() ([][]goal, []map[string]int) {
	var goals [][]goal
	var labels []map[string]int
	for more := true; more; {
		d.just(fmt.Sprintf("P%d", len(goals)))
		goals, labels = append(goals, nil), append(labels, map[string]int{})
		word := d.pop()
		d.must(word.Text == ";" || word.Text == "|" && len(goals) < 3, api.ErrForm, word)
		more = word.Text == "|"
	}
	d.test.Code = make([][]api.Ins, len(goals))
	for !d.atQuantifier() {
		for thread := range goals {
			for d.word(0).Kind == api.TokName && d.word(1).Text == ":" {
				_, twice := labels[thread][d.word(0).Text]
				d.must(!twice, api.ErrTwice, d.word(0))
				labels[thread][d.pop().Text] = len(goals[thread])
				d.pop()
			}
			if words := d.cell(); len(words) > 0 {
				i, label, e, at := parseIns(d.test.Arch, words)
				if e == api.ErrEnd {
					at = d.word(0).At
				}
				d.must(e == api.OK, e, api.Token{At: at})
				d.test.Code[thread] = append(d.test.Code[thread], i)
				goals[thread] = append(goals[thread], goal{label, words[0].At})
			}
			if thread < len(goals)-1 {
				d.just("|")
			}
		}
		d.just(";")
	}
	return goals, labels
}

func (d *descent) atQuantifier() bool {
	text := d.word(0).Text
	return text == "~" || (text == "exists" || text == "forall") && d.word(1).Text != ":"
}

// cell goes past the words of an instruction.
func (d *descent) cell() []api.Token {
	var words []api.Token
	for len(d.ts) > 0 && d.word(0).Text != "|" && d.word(0).Text != ";" {
		words = append(words, d.pop())
	}
	return words
}

// last reads the quantifier and the condition.
func (d *descent) last() {
	switch d.pop().Text {
	case "~":
		d.just("exists")
		d.test.Quant = api.NotExists
	case "exists":
		d.test.Quant = api.Exists
	default:
		d.test.Quant = api.Forall
	}
	cs, e, at := cond.Parse(d.test.Arch, d.ts...)
	if e == api.ErrEnd {
		at = d.end
	}
	d.must(e == api.OK, e, api.Token{At: at})
	d.test.Cond = cs
}

func (d *descent) link(goals [][]goal, labels []map[string]int) {
	for thread, code := range d.test.Code {
		for k := range code {
			if code[k].Op == api.OpBranch {
				to, ok := labels[thread][goals[thread][k].label]
				d.must(ok, api.ErrLabel, api.Token{At: goals[thread][k].at})
				code[k].To = to
			}
		}
	}
}

// drawn is a row of numbers that is the same at each run.
type drawn uint64

// below is the next one of it, 0 to n-1.
func (d *drawn) below(n int) int {
	*d = *d*6364136223846793005 + 1442695040888963407
	return int(uint64(*d) >> 33 % uint64(n))
}

func pick[T any](d *drawn, list []T) T {
	return list[d.below(len(list))]
}

var someValues = []int{0, 0, 1, 2, -1, -5, 77, 1<<63 - 1, -1 << 63}

// ins is an instruction that an architecture has; a branch goes to 0.
func (d *drawn) ins(arch, op int) api.Ins {
	for {
		i := api.Ins{Op: op, Dst: -1, A: -1, B: -1, Index: -1}
		reg := func() int { return d.below(8) }
		flag := func() bool { return d.below(2) == 0 }
		switch op {
		case api.OpConst:
			i.Dst, i.Imm = reg(), pick(d, someValues)
		case api.OpMove:
			i.Dst, i.A = reg(), reg()
		case api.OpAlu:
			i.Dst, i.Fn, i.A, i.B = reg(), 1+d.below(5), reg(), d.below(9)-1
		case api.OpLoad:
			i.Dst, i.Acq, i.Weak = reg(), flag(), flag()
		case api.OpStore:
			i.A, i.Rel = d.below(9)-1, flag()
		case api.OpRmw:
			i.Dst, i.A, i.Fn, i.Acq, i.Rel = reg(), reg(), pick(d, []int{api.FnSwap, api.FnAdd}), flag(), flag()
		case api.OpFence:
			i.Pred, i.Succ = 1+d.below(3), 1+d.below(3)
		case api.OpBranch:
			i.A, i.Zero = reg(), flag()
		}
		if uir.Reads(i) || uir.Writes(i) {
			i.Loc, i.Size, i.Index = d.below(3), 1<<d.below(4), max(-1, d.below(16)-8)
			i.Off = d.below(8/i.Size) * i.Size
		}
		if op == api.OpAlu && i.B < 0 || op == api.OpStore && i.A < 0 {
			i.Imm = pick(d, someValues)
		}
		if _, e := printIns(arch, i, "L"); e == api.OK {
			return i
		}
	}
}

// test is one that is right.
func (d *drawn) test() api.Test {
	t := api.Test{Arch: pick(d, arches), Name: pick(d, []string{"a", "SB", "MP.2", "_", "exists", "P0", "X86", "x", "RAX", "abcdefghijklmnop"}), Quant: pick(d, quants)}
	t.Code = make([][]api.Ins, 1+d.below(3))
	ops, branches := 0, 0
	for thread := range t.Code {
		n := d.below(9)
		for k := range n {
			op := pick(d, []int{1, 2, 3, 4, 5, 6, 7, 8, 9, 9})
			isOp := op >= api.OpLoad && op <= api.OpRmw
			if isOp && ops == 6 || op == api.OpBranch && branches == 3 || op == api.OpIsb && t.Arch != api.ARM {
				op = api.OpConst
			}
			i := d.ins(t.Arch, op)
			ops += uir.Ops(i)
			branches += uir.Branches(i)
			if op == api.OpBranch {
				i.To = k + 1 + d.below(n-k)
			}
			t.Code[thread] = append(t.Code[thread], i)
		}
		for r := range t.Regs[thread] {
			t.Regs[thread][r] = max(0, d.below(4)-2) * pick(d, someValues)
		}
	}
	for l := range t.Init {
		t.Init[l] = pick(d, someValues)
	}
	t.Cond = d.cond(1 + d.below(32))
	return t
}

// cond is a condition of just n nodes.
func (d *drawn) cond(n int) []api.Cond {
	switch {
	case n == 1 && d.below(2) == 0:
		return []api.Cond{{Kind: api.CondLoc, Loc: d.below(3), Value: pick(d, someValues)}}
	case n == 1:
		return []api.Cond{{Kind: api.CondReg, Thread: d.below(3), Reg: d.below(8), Value: pick(d, someValues)}}
	case n == 2 || d.below(4) == 0:
		return append(d.cond(n-1), api.Cond{Kind: api.CondNot})
	}
	k := 1 + d.below(n-2)
	return append(append(d.cond(k), d.cond(n-1-k)...), api.Cond{Kind: api.CondAnd + d.below(2)})
}

// loose is a text of a right test, by words, that is not as Print writes it:
// more labels, with other names, rows that are empty, settings of 0, and in
// another order.
func (d *drawn) loose(t api.Test) []string {
	texts := []string{archNames[t.Arch], t.Name, "{"}
	var settings [][]string
	for l, v := range t.Init {
		if v != 0 || d.below(2) == 0 {
			settings = append(settings, []string{locationNames[l], "=", fmt.Sprint(v), ";"})
		}
	}
	for thread, regs := range t.Regs {
		for r, v := range regs {
			if v != 0 || d.below(8) == 0 {
				settings = append(settings, []string{fmt.Sprint(thread), ":", registerNames[t.Arch][r], "=", fmt.Sprint(v), ";"})
			}
		}
	}
	for len(settings) > 0 {
		n := d.below(len(settings))
		texts = append(texts, settings[n]...)
		settings = slices.Delete(settings, n, n+1)
	}
	texts = append(texts, "}")
	columns := make([][]string, len(t.Code))
	for thread, code := range t.Code {
		texts = append(texts, []string{"P0", "| P1", "| P2"}[thread])
		columns[thread] = d.looseColumn(t.Arch, code)
	}
	texts = append(texts, ";")
	for slices.ContainsFunc(columns, func(c []string) bool { return len(c) > 0 }) {
		for thread := range columns {
			if thread > 0 {
				texts = append(texts, "|")
			}
			if len(columns[thread]) > 0 && d.below(4) > 0 {
				texts = append(texts, columns[thread][0])
				columns[thread] = columns[thread][1:]
			}
		}
		texts = append(texts, ";")
	}
	claim, _ := cond.Print(t.Arch, t.Cond...)
	return strings.Fields(strings.Join(append(texts, quantNames[t.Quant], claim), " "))
}

// looseColumn is the cells of a code: each index has a label, in its own cell,
// or in one of its own ahead.
func (d *drawn) looseColumn(arch int, code []api.Ins) []string {
	names := strings.Fields("end A exists forall RAX a0 X0 MOV MFENCE P0 x L1 L0 L2 JZ _ b.c")
	for n := range names {
		k := d.below(n + 1)
		names[n], names[k] = names[k], names[n]
	}
	var cells []string
	for k := range len(code) + 1 {
		labels := []string{names[k] + ":"}
		if d.below(4) == 0 && k+9 < len(names) {
			labels = append(labels, names[k+9]+" :")
		}
		if d.below(4) == 0 {
			cells = append(cells, strings.Join(labels, " "))
			labels = nil
		}
		if k < len(code) {
			text, _ := printIns(arch, code[k], names[code[k].To])
			labels = append(labels, text)
		}
		cells = append(cells, strings.Join(labels, " "))
	}
	return cells
}

// laid is words with something between them, as drawn.
func (d *drawn) laid(texts []string) string {
	var b strings.Builder
	for _, text := range texts {
		b.WriteString(pick(d, []string{" ", "\n", "\t", "  ", " (* exists *) ", "(**)", "\n\n"}))
		b.WriteString(text)
	}
	b.WriteString(pick(d, []string{"", " ", "\n", " (* ; *)"}))
	return b.String()
}

func wordsOf(t *testing.T, text string) []string {
	t.Helper()
	ts, e, at := scan.Tokens(text)
	if e != api.OK {
		t.Fatalf("%q is no row of words: %d at %d", text, e, at)
	}
	var texts []string
	for _, word := range ts {
		texts = append(texts, word.Text)
	}
	return texts
}
