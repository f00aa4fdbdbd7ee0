package cat

import (
	"belated/api"
	"belated/ask"
)

// The words that are no NAMEs.
const (
	wordLet         = "let"
	wordRec         = "rec"
	wordAnd         = "and"
	wordAcyclic     = "acyclic"
	wordIrreflexive = "irreflexive"
	wordEmpty       = "empty"
	wordAs          = "as"
)

const (
	markStar  = "*"  // behind one
	markTimes = "**" // a `*` between two: scan cuts no such word
)

// reader goes through the words of a model, and sees to its form. Behind a
// fault it goes on to the statement's end: what it makes then is not used.
type reader struct {
	*ask.Reader
	open int // how many brackets stand around
}

// mark is the mark of an operator, and the kind of node that it makes.
type mark struct {
	text string
	kind int
}

// tellStars turns each `*` between two into a word of its own: which one a `*`
// is hangs on the next word alone, not on what it stands in.
func tellStars(words []api.Token) []api.Token {
	for n := 1; n < len(words); n++ {
		if isMark(words[n-1], markStar) && isOperand(words[n]) {
			words[n-1].Text = markTimes
		}
	}
	return words
}

// isOperand tells whether a `*` ahead of a word stands between two.
func isOperand(word api.Token) bool {
	return isName(word) || word.Kind == api.TokNumber || isMark(word, "(") || isMark(word, "[")
}

func isName(word api.Token) bool {
	switch word.Text {
	case wordLet, wordRec, wordAnd, wordAcyclic, wordIrreflexive, wordEmpty, wordAs:
		return false
	}
	return word.Kind == api.TokName
}

func isMark(word api.Token, text string) bool {
	return word.Kind == api.TokMark && word.Text == text
}

func isNumber(word api.Token, n int) bool {
	return word.Kind == api.TokNumber && word.N == n
}

// fine tells whether there is no fault yet.
func (r *reader) fine() bool {
	e, _ := r.Fault()
	return e == api.OK
}

func (r *reader) model() []statement {
	var all []statement
	for r.Left() > 0 && r.fine() {
		all = append(all, r.statement())
	}
	return all
}

func (r *reader) statement() statement {
	switch {
	case r.Take(wordLet, wordRec):
		return statement{kindRec, r.equations()}
	case r.Take(wordLet):
		return statement{kindLet, r.equations()}
	case r.Take(wordAcyclic):
		return statement{kindAcyclic, r.check()}
	case r.Take(wordIrreflexive):
		return statement{kindIrreflexive, r.check()}
	case r.Take(wordEmpty):
		return statement{kindEmpty, r.check()}
	}
	r.Refuse(api.ErrForm)
	return statement{}
}

// equations reads names with what they stand for, `and` between.
func (r *reader) equations() []part {
	var all []part
	for more := true; more; more = r.Take(wordAnd) {
		p := part{at: r.At()}
		p.name = r.name()
		r.Mark("=")
		p.value = r.expression()
		all = append(all, p)
	}
	return all
}

// check reads what a check is asked of, and its name if there is one.
func (r *reader) check() []part {
	p := part{value: r.expression()}
	if r.Take(wordAs) {
		p.name = r.name()
	}
	return []part{p}
}

// name asks for a NAME.
func (r *reader) name() string {
	word, _ := r.Peek()
	if !isName(word) {
		r.Refuse(api.ErrForm)
		return ""
	}
	r.Next()
	return word.Text
}

func (r *reader) expression() *node {
	return r.row(r.meets, mark{"|", nodeUnion})
}

func (r *reader) meets() *node {
	return r.row(r.seqs, mark{"&", nodeMeet}, mark{`\`, nodeMinus})
}

func (r *reader) seqs() *node {
	return r.row(r.product, mark{";", nodeSeq})
}

// row reads parts with some of these marks between: they go from the left.
func (r *reader) row(part func() *node, marks ...mark) *node {
	n := part()
	for {
		kind, ok := r.oneOf(marks...)
		if !ok {
			return n
		}
		n = &node{kind: kind, at: n.at, left: n, right: part()}
	}
}

// oneOf goes past one of these marks, if there is one: what it makes.
func (r *reader) oneOf(marks ...mark) (int, bool) {
	for _, m := range marks {
		if r.Take(m.text) {
			return m.kind, true
		}
	}
	return 0, false
}

// product reads one part, or two: behind these no `*` between two may stand,
// so one that does is left to be refused.
func (r *reader) product() *node {
	n := r.factor()
	if r.Take(markTimes) {
		n = &node{kind: nodeCross, at: n.at, left: n, right: r.factor()}
	}
	return n
}

// factor reads a part, and all operators that stand behind it.
func (r *reader) factor() *node {
	n := r.atom()
	for {
		kind, ok := r.oneOf(mark{"+", nodePlus}, mark{markStar, nodeStar}, mark{"?", nodeMaybe}, mark{"^", nodeInverse})
		if !ok {
			return n
		}
		if kind == nodeInverse {
			r.minusOne()
		}
		n = &node{kind: kind, at: n.at, left: n}
	}
}

// minusOne asks for what stands behind a `^`.
func (r *reader) minusOne() {
	r.Mark("-")
	word, _ := r.Peek()
	if !isNumber(word, 1) {
		r.Refuse(api.ErrForm)
		return
	}
	r.Next()
}

// atom reads a NAME, `0`, or a part in brackets.
func (r *reader) atom() *node {
	word, _ := r.Peek()
	switch {
	case isName(word):
		r.Next()
		return &node{kind: nodeName, at: word.At, text: word.Text}
	case isNumber(word, 0):
		r.Next()
		return &node{kind: nodeZero, at: word.At}
	case isMark(word, "("):
		return r.bracket(nodeRound, ")")
	case isMark(word, "["):
		return r.bracket(nodeSquare, "]")
	}
	r.Refuse(api.ErrForm)
	return &node{}
}

// bracket reads from a bracket to the one that ends it.
func (r *reader) bracket(kind int, end string) *node {
	n := &node{kind: kind, at: r.At()}
	if r.open == api.MaxDepth {
		r.Refuse(api.ErrLong)
		return n
	}
	r.open++
	r.Next()
	n.left = r.expression()
	r.Mark(end)
	r.open--
	return n
}
