package lang

import (
	"slices"
	"strings"
	"testing"

	"belated/api"
	"belated/ask"
	"belated/scan"
)

func TestIsName(t *testing.T) {
	for _, text := range []string{"a", "_", "A.b_9", "exists", strings.Repeat("a", api.MaxText)} {
		if !IsName(text) {
			t.Errorf("4.1: %.40q is a name", text)
		}
	}
	for _, text := range []string{"", " ", "7", "7a", ".a", "a b", " a", "a ", "a(**)", "a:", "é", "(* a", strings.Repeat("a", api.MaxText+1)} {
		if IsName(text) {
			t.Errorf("4.1: %.40q is no name", text)
		}
	}
}

func TestNames(t *testing.T) {
	regs := toy().Regs
	if got := RegNames(regs.Name); !slices.Equal(got, regs[:]) {
		t.Errorf("5.1: RegNames = %q", got)
	}
	if got := LocNames(); !slices.Equal(got, []string{"x", "y", "z"}) {
		t.Errorf("5.1: LocNames = %q", got)
	}
}

func TestHolder(t *testing.T) {
	regs := toy().Regs
	for _, x := range []struct {
		text string
		want api.Cond
		e    api.Errno
		at   int
		left int
	}{
		{"x", api.Cond{Kind: api.CondLoc}, api.OK, 0, 0}, {"z = 1", api.Cond{Kind: api.CondLoc, Loc: 2}, api.OK, 0, 2}, {"0:q0", api.Cond{Kind: api.CondReg}, api.OK, 0, 0}, {"2:q7 5", api.Cond{Kind: api.CondReg, Thread: 2, Reg: 7}, api.OK, 0, 1},
		{"", api.Cond{}, api.ErrEnd, 0, 0}, {" w", api.Cond{}, api.ErrWord, 1, 1}, {" q0", api.Cond{}, api.ErrWord, 1, 1}, {" =", api.Cond{}, api.ErrForm, 1, 1}, {" -0:q0", api.Cond{}, api.ErrForm, 1, 4},
		{"3:q0", api.Cond{}, api.ErrForm, 0, 0}, {"9223372036854775808:q0", api.Cond{}, api.ErrForm, 0, 0}, {"1", api.Cond{}, api.ErrEnd, 1, 0}, {"1 q0", api.Cond{}, api.ErrForm, 2, 0}, {"1:", api.Cond{}, api.ErrEnd, 2, 0}, {"1:q8", api.Cond{}, api.ErrWord, 2, 1}, {"1:x", api.Cond{}, api.ErrWord, 2, 1}, {"1:5", api.Cond{}, api.ErrForm, 2, 1},
	} {
		ts, _, _ := scan.Tokens(x.text)
		r := ask.New(ts...)
		got := Holder(r, regs[:])
		if e, at := r.Fault(); e != x.e || at != x.at || r.Left() != x.left || e == api.OK && got != x.want {
			t.Errorf("8.3: Holder of %q: %+v, %d at %d, %d words ahead", x.text, got, e, at, r.Left())
		}
	}
}
