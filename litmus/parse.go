package litmus

import (
	"slices"

	"belated/api"
	"belated/ask"
	"belated/cond"
	"belated/lang"
	"belated/scan"
	"belated/uir"
)

// reader goes through the words of a test.
type reader struct {
	*ask.Reader
	words   []api.Token
	lang    language
	test    api.Test   // what has been read of it
	given   []api.Cond // what has been set, without values
	columns []column
}

// column is a thread's code, as far as its rows have been read.
type column struct {
	lines  []line
	labels map[string]int // by label, the index that it stands for
}

// line is an instruction of a column.
type line struct {
	ins   api.Ins
	label string // that a branch names
	at    int    // where its first word begins
}

// Parse reads a test; where it goes wrong.
func Parse(text string) (api.Test, api.Errno, int) {
	words, e, at := scan.Tokens(text)
	if e != api.OK {
		return api.Test{}, e, at
	}
	r := &reader{Reader: ask.New(words...), words: words}
	r.all()
	e, at = r.Fault()
	if e == api.ErrEnd && r.isBehind(at) {
		at = len(text)
	}
	if e != api.OK {
		return api.Test{}, e, at
	}
	return r.test, api.OK, 0
}

// all reads the parts of a text and puts them together, up to the first fault.
func (r *reader) all() {
	parts := []func(){r.title, r.settings, r.head, r.rows, r.claim, r.link, r.check}
	for n := 0; n < len(parts) && r.isRight(); n++ {
		parts[n]()
	}
}

// isRight tells whether there is no fault so far.
func (r *reader) isRight() bool {
	e, _ := r.Fault()
	return e == api.OK
}

// isBehind tells whether a place is behind the last word: there, blanks and
// remarks may lie ahead of the end of the text.
func (r *reader) isBehind(at int) bool {
	n := len(r.words)
	return n == 0 || at > r.words[n-1].At
}

// ahead is the words that have not been read.
func (r *reader) ahead() []api.Token {
	return r.words[len(r.words)-r.Left():]
}

// upTo goes past all words ahead of the next one of these marks, or of the end.
func (r *reader) upTo(marks ...string) []api.Token {
	words := r.ahead()
	n := slices.IndexFunc(words, func(word api.Token) bool { return slices.Contains(marks, word.Text) })
	if n >= 0 {
		words = words[:n]
	}
	for range words {
		r.Next()
	}
	return words
}

// told keeps what another reader says of the words that were gone past: words
// that it misses are missing ahead of the next one.
func (r *reader) told(e api.Errno, at int) {
	switch e {
	case api.OK:
	case api.ErrEnd:
		r.Refuse(e)
	default:
		r.RefuseAt(e, at)
	}
}

// title reads the architecture and the name.
func (r *reader) title() {
	r.test.Arch = api.X86 + r.Known(titles()...)
	r.lang, _ = languageOf(r.test.Arch)
	word, _ := r.Peek()
	if word.Kind != api.TokName || len(word.Text) > api.MaxName {
		r.Refuse(api.ErrForm)
	}
	r.Next()
	r.test.Name = word.Text
}

// settings reads what is set at the start.
func (r *reader) settings() {
	r.Mark(opening)
	for r.isRight() && !r.Take(closing) {
		r.setting()
	}
}

func (r *reader) setting() {
	at := r.At()
	c := lang.Holder(r.Reader, lang.RegNames(r.lang.reg))
	if slices.Contains(r.given, c) {
		r.RefuseAt(api.ErrTwice, at)
	}
	r.given = append(r.given, c)
	r.Mark(assign)
	value := r.Num()
	r.Mark(behind)
	switch {
	case !r.isRight():
	case c.Kind == api.CondLoc:
		r.test.Init[c.Loc] = value
	default:
		r.test.Regs[c.Thread][c.Reg] = value
	}
}

// head reads how many threads there are.
func (r *reader) head() {
	r.thread()
	for len(r.columns) < api.MaxThreads && r.Take(between) {
		r.thread()
	}
	r.Mark(behind)
}

// thread reads the name of the next thread, and begins its column.
func (r *reader) thread() {
	r.Mark(threadName(len(r.columns)))
	r.columns = append(r.columns, column{labels: map[string]int{}})
}

// rows reads all rows, up to the quantifier.
func (r *reader) rows() {
	for r.isRight() && !r.isQuantifier() {
		r.row()
	}
}

// isQuantifier tells whether a quantifier begins with the next word.
func (r *reader) isQuantifier() bool {
	word, _ := r.Peek()
	isWord := word.Text == exists || word.Text == forall
	return word.Text == markNot || isWord && !r.isLabel()
}

// isLabel tells whether a label comes next.
func (r *reader) isLabel() bool {
	words := r.ahead()
	return len(words) > 1 && words[0].Kind == api.TokName && words[1].Text == labelMark
}

func (r *reader) row() {
	for n := range r.columns {
		if n > 0 {
			r.Mark(between)
		}
		r.cell(&r.columns[n])
	}
	r.Mark(behind)
}

// cell reads labels and, if there is one, an instruction.
func (r *reader) cell(c *column) {
	for r.isLabel() {
		r.label(c)
	}
	words := r.upTo(between, behind)
	if len(words) == 0 {
		return
	}
	i, label, e, at := r.lang.parse(words...)
	r.told(e, at)
	c.lines = append(c.lines, line{i, label, words[0].At})
}

func (r *reader) label(c *column) {
	at := r.At()
	name, _ := r.Name()
	if _, ok := c.labels[name]; ok {
		r.RefuseAt(api.ErrTwice, at)
	}
	c.labels[name] = len(c.lines)
	r.Mark(labelMark)
}

// claim reads the quantifier and the condition.
func (r *reader) claim() {
	r.test.Quant = r.quantifier()
	cs, e, at := cond.Parse(r.test.Arch, r.upTo()...)
	r.told(e, at)
	r.test.Cond = cs
}

func (r *reader) quantifier() int {
	if r.Take(forall) {
		return api.Forall
	}
	quant := api.Exists
	if r.Take(markNot) {
		quant = api.NotExists
	}
	r.Mark(exists)
	return quant
}

// link makes the columns codes: only now all labels are known.
func (r *reader) link() {
	for _, c := range r.columns {
		var code []api.Ins
		for _, l := range c.lines {
			code = append(code, r.linked(c, l))
		}
		r.test.Code = append(r.test.Code, code)
	}
}

// linked is an instruction, a branch with the index that its label stands for.
func (r *reader) linked(c column, l line) api.Ins {
	if l.ins.Op != api.OpBranch {
		return l.ins
	}
	to, ok := c.labels[l.label]
	if !ok {
		r.RefuseAt(api.ErrLabel, l.at)
	}
	l.ins.To = to
	return l.ins
}

// check asks whether the test is right: that an instruction is not, is told
// where it stands.
func (r *reader) check() {
	e := Check(r.test)
	switch e {
	case api.OK:
	case api.ErrIns, api.ErrTarget:
		thread, at, _ := uir.Check(r.test.Code...)
		r.RefuseAt(e, r.columns[thread].lines[at].at)
	default:
		r.RefuseAt(e, 0)
	}
}
