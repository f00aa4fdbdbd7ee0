package cond

import (
	"belated/api"
	"belated/ask"
	"belated/lang"
)

// bracket stands among the kinds of marks that wait: it binds less than all.
const bracket = api.CondOr + 1

// reader goes through the words of a condition. It calls itself nowhere: how
// deep brackets lie in one another does not matter.
type reader struct {
	*ask.Reader
	regs  []string   // the registers' names
	nodes []api.Cond // those whose parts are whole
	wait  []int      // the kinds of the marks whose last part is not, and brackets
	open  int        // how many of these are brackets
}

// Parse reads one condition, with the register names of an architecture; where
// it goes wrong.
func Parse(arch int, ts ...api.Token) ([]api.Cond, api.Errno, int) {
	regs := regNames(arch)
	if regs == nil {
		return nil, api.ErrArch, 0
	}
	r := &reader{Reader: ask.New(ts...), regs: regs}
	begin := r.At()
	r.condition()
	r.End()
	if e, at := r.Fault(); e != api.OK {
		return nil, e, at
	}
	if len(r.nodes) > api.MaxNodes {
		return nil, api.ErrLong, begin
	}
	return r.nodes, api.OK, 0
}

// condition reads parts with `/\` and `\/` between, as far as they go.
func (r *reader) condition() {
	for more := true; more; more = r.joined() {
		r.begun()
		r.leaf()
		r.ended()
	}
	if r.open > 0 {
		r.Refuse(api.ErrForm)
	}
	r.settle(api.CondOr)
}

// begun goes past all that may stand ahead of a leaf.
func (r *reader) begun() {
	for {
		switch {
		case r.Take(markNot):
			r.wait = append(r.wait, api.CondNot)
		case r.Take(opening):
			r.wait = append(r.wait, bracket)
			r.open++
		default:
			return
		}
	}
}

// leaf reads a register's or a location's value.
func (r *reader) leaf() {
	c := lang.Holder(r.Reader, r.regs)
	r.Mark("=")
	c.Value = r.Num()
	r.nodes = append(r.nodes, c)
}

// ended goes past the brackets that end here; one that none was opened for is
// no word of this condition.
func (r *reader) ended() {
	for r.open > 0 && r.Take(closing) {
		r.settle(api.CondOr)
		r.wait = r.wait[:len(r.wait)-1]
		r.open--
	}
}

// joined goes past a mark between two parts; false, if there is none.
func (r *reader) joined() bool {
	kind := 0
	switch {
	case r.Take(markAnd):
		kind = api.CondAnd
	case r.Take(markOr):
		kind = api.CondOr
	default:
		return false
	}
	r.settle(kind)
	r.wait = append(r.wait, kind)
	return true
}

// settle lays the marks that wait behind their parts, from the last one on, as
// long as they bind at least as much as a kind: the kinds' numbers rise as
// they bind less.
func (r *reader) settle(kind int) {
	n := len(r.wait)
	for n > 0 && r.wait[n-1] <= kind {
		n--
		r.nodes = append(r.nodes, api.Cond{Kind: r.wait[n]})
	}
	r.wait = r.wait[:n]
}
