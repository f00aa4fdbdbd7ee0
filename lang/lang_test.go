package lang

import (
	"testing"

	"belated/api"
	"belated/scan"
)

// toy is a language that is none of the three: all that is said of it is in
// its table.
func toy() Language {
	return Language{
		Regs:    Registers{"q0", "q1", "q2", "q3", "q4", "q5", "q6", "q7"},
		Letters: [4]string{"", "2", "4", "8"},
		ImmMark: "#",
		Fences:  [3]string{"in", "out", "all"},
		Rows: []Row{
			{Name: "get*.now", Ins: api.Ins{Op: api.OpLoad, Acq: true}, Parts: []Part{Mem, Dst}},
			{Name: "put*", Ins: api.Ins{Op: api.OpStore}, Parts: []Part{A, Mem}},
			{Name: "op", Ins: api.Ins{Op: api.OpAlu, Fn: api.FnSub}, Parts: []Part{B, Dst, A}},
			{Name: "op", Ins: api.Ins{Op: api.OpAlu, Fn: api.FnSub}, Parts: []Part{Imm, Dst, A}},
			{Name: "go", Ins: api.Ins{Op: api.OpBranch}, Parts: []Part{Label, A}},
			{Name: "wait", Ins: api.Ins{Op: api.OpIsb}},
			{Name: "hold", Ins: api.Ins{Op: api.OpFence}, Parts: []Part{Succ, Pred}},
			{Name: "leap", Word: "if", Ins: api.Ins{Op: api.OpBranch, Zero: true}, Parts: []Part{A, Word, Label}},
			{Name: "leap", Word: "over", Ins: api.Ins{Op: api.OpMove}, Parts: []Part{A, Word, Dst}},
		},
	}
}

// unmarked is a language in which no mark is ahead of an IMM.
func unmarked() Language {
	return Language{
		Regs:    toy().Regs,
		Letters: toy().Letters,
		Rows: []Row{
			{Name: "op", Ins: api.Ins{Op: api.OpAlu, Fn: api.FnSub}, Parts: []Part{Dst, A, B}},
			{Name: "op", Ins: api.Ins{Op: api.OpAlu, Fn: api.FnSub}, Parts: []Part{Dst, A, Imm}},
			{Name: "put*", Ins: api.Ins{Op: api.OpStore}, Parts: []Part{Imm, Mem}},
		},
	}
}

func TestUnmarked(t *testing.T) {
	for text, want := range map[string]api.Ins{
		"op q1,q2,q3":  {Op: api.OpAlu, Fn: api.FnSub, Dst: 1, A: 2, B: 3, Index: -1},
		"op q1,q2,0":   {Op: api.OpAlu, Fn: api.FnSub, Dst: 1, A: 2, B: -1, Index: -1},
		"op q1,q2,-5":  {Op: api.OpAlu, Fn: api.FnSub, Dst: 1, A: 2, B: -1, Imm: -5, Index: -1},
		"put2 7,[x+2]": {Op: api.OpStore, Dst: -1, A: -1, B: -1, Imm: 7, Index: -1, Off: 2, Size: 2},
		"put -7,[x]":   {Op: api.OpStore, Dst: -1, A: -1, B: -1, Imm: -7, Index: -1, Size: 1},
	} {
		ts, _, _ := scan.Tokens(text)
		if i, label, e, at := unmarked().Parse(ts...); i != want || label != "" || e != api.OK || at != 0 {
			t.Errorf("Parse of %q: %+v, %q, %d, %d, want %+v", text, i, label, e, at, want)
		}
		if got, e := unmarked().Print(want, ""); got != text || e != api.OK {
			t.Errorf("Print of %q: %q, %d", text, got, e)
		}
	}
	for _, x := range []struct {
		text string
		e    api.Errno
		at   int
	}{
		{"op q1,q2,", api.ErrEnd, 9}, {"op q1,q2,-", api.ErrEnd, 10}, {"op q1,q2,q8", api.ErrWord, 9}, {"op q1,q2,-q3", api.ErrForm, 10}, {"op q1,q2,--3", api.ErrForm, 10}, {"op q1,q2,#3", api.ErrForm, 9}, {"op q1,q2,+3", api.ErrForm, 9}, {"op q1,q2,[x]", api.ErrForm, 9},
		{"put q1,[x]", api.ErrForm, 4}, {"put 5[x]", api.ErrForm, 5}, {"put - ,[x]", api.ErrForm, 6}, {"put 5,6", api.ErrForm, 6}, {"op q1,q2,5 6", api.ErrMore, 11},
	} {
		ts, _, _ := scan.Tokens(x.text)
		if i, label, e, at := unmarked().Parse(ts...); i != (api.Ins{}) || label != "" || e != x.e || at != x.at {
			t.Errorf("Parse of %q: %+v, %q, %d at %d, want %d at %d", x.text, i, label, e, at, x.e, x.at)
		}
	}
}

func TestToy(t *testing.T) {
	for text, want := range map[string]api.Ins{
		"get.now [x],q7":     {Op: api.OpLoad, Dst: 7, A: -1, B: -1, Index: -1, Size: 1, Acq: true},
		"get4.now [y+4],q0":  {Op: api.OpLoad, Dst: 0, A: -1, B: -1, Index: -1, Loc: 1, Off: 4, Size: 4, Acq: true},
		"put q1,[z+3+q2]":    {Op: api.OpStore, Dst: -1, A: 1, B: -1, Index: 2, Loc: 2, Off: 3, Size: 1},
		"put2 q1,[x+q0]":     {Op: api.OpStore, Dst: -1, A: 1, B: -1, Index: 0, Size: 2},
		"put8 q0,[x]":        {Op: api.OpStore, Dst: -1, A: 0, B: -1, Index: -1, Size: 8},
		"op q1,q2,q3":        {Op: api.OpAlu, Fn: api.FnSub, Dst: 2, A: 3, B: 1, Index: -1},
		"op #-5,q2,q3":       {Op: api.OpAlu, Fn: api.FnSub, Dst: 2, A: 3, B: -1, Imm: -5, Index: -1},
		"op #0,q2,q2":        {Op: api.OpAlu, Fn: api.FnSub, Dst: 2, A: 2, B: -1, Index: -1},
		"go L,q6":            {Op: api.OpBranch, Dst: -1, A: 6, B: -1, Index: -1},
		"wait":               {Op: api.OpIsb, Dst: -1, A: -1, B: -1, Index: -1},
		"hold out,in":        {Op: api.OpFence, Dst: -1, A: -1, B: -1, Index: -1, Pred: api.FenceR, Succ: api.FenceW},
		"hold all,out":       {Op: api.OpFence, Dst: -1, A: -1, B: -1, Index: -1, Pred: api.FenceW, Succ: api.FenceR | api.FenceW},
		"hold in,all":        {Op: api.OpFence, Dst: -1, A: -1, B: -1, Index: -1, Pred: api.FenceR | api.FenceW, Succ: api.FenceR},
		"get8.now [z+q6],q6": {Op: api.OpLoad, Dst: 6, A: -1, B: -1, Index: 6, Loc: 2, Size: 8, Acq: true},
		"leap q3,if,L":       {Op: api.OpBranch, Dst: -1, A: 3, B: -1, Index: -1, Zero: true},
		"leap q3,over,q4":    {Op: api.OpMove, Dst: 4, A: 3, B: -1, Index: -1},
	} {
		ts, _, _ := scan.Tokens(text)
		i, label, e, at := toy().Parse(ts...)
		if i != want || (label == "L") != (i.Op == api.OpBranch) || e != api.OK || at != 0 {
			t.Errorf("Parse of %q: %+v, %q, %d, %d, want %+v", text, i, label, e, at, want)
		}
		if got, e := toy().Print(want, "L"); got != text || e != api.OK {
			t.Errorf("Print of %q: %q, %d", text, got, e)
		}
	}
}

func TestToyRefuses(t *testing.T) {
	for _, x := range []struct {
		text string
		e    api.Errno
		at   int
	}{
		{"", api.ErrEnd, 0}, {"get [x],q7", api.ErrWord, 0}, {"get1.now [x],q7", api.ErrWord, 0}, {"put* q1,[x]", api.ErrForm, 3}, {"put1 q1,[x]", api.ErrWord, 0},
		{"op", api.ErrEnd, 2}, {"op q8", api.ErrWord, 3}, {"op $5", api.ErrForm, 3}, {"op 5", api.ErrForm, 3}, {"op #5,#5", api.ErrForm, 6}, {"op q1,q2", api.ErrEnd, 8}, {"op q1,q2,#3", api.ErrForm, 9},
		{"get2.now [x+1],q0", api.ErrIns, 0}, {"go 5,q0", api.ErrForm, 3}, {"go L,q8", api.ErrWord, 5}, {"wait 1", api.ErrMore, 5},
		{"hold", api.ErrEnd, 4}, {"hold in", api.ErrEnd, 7}, {"hold in,", api.ErrEnd, 8}, {"hold r,in", api.ErrWord, 5}, {"hold in,q1", api.ErrWord, 8}, {"hold 1,in", api.ErrForm, 5}, {"hold in,in,in", api.ErrMore, 10},
		{"leap q3,", api.ErrEnd, 8}, {"leap q3,q4", api.ErrWord, 8}, {"leap q3,IF,L", api.ErrWord, 8}, {"leap q3,ifs,L", api.ErrWord, 8}, {"leap q3,5,L", api.ErrForm, 8}, {"leap q3,[x],L", api.ErrForm, 8}, {"leap if,q3,L", api.ErrWord, 5},
		{"leap q3,if", api.ErrEnd, 10}, {"leap q3,if L", api.ErrForm, 11}, {"leap q3,if,", api.ErrEnd, 11}, {"leap q3,if,5", api.ErrForm, 11}, {"leap q3,over,L", api.ErrWord, 13}, {"leap q3,over,q4,if", api.ErrMore, 15},
	} {
		ts, _, _ := scan.Tokens(x.text)
		if i, label, e, at := toy().Parse(ts...); i != (api.Ins{}) || label != "" || e != x.e || at != x.at {
			t.Errorf("Parse of %q: %+v, %q, %d at %d, want %d at %d", x.text, i, label, e, at, x.e, x.at)
		}
	}
	for _, i := range []api.Ins{
		{Op: api.OpStore, Dst: -1, A: -1, B: -1, Index: -1, Size: 8},
		{Op: api.OpStore, Dst: -1, A: -1, B: -1, Index: -1, Size: 8, Imm: 5},
		{Op: api.OpLoad, Dst: 0, A: -1, B: -1, Index: -1, Size: 8},
		{Op: api.OpAlu, Fn: api.FnAdd, Dst: 2, A: 3, B: 1, Index: -1},
		{Op: api.OpConst, Dst: 2, A: -1, B: -1, Index: -1},
	} {
		if text, e := toy().Print(i, "L"); text != "" || e != api.ErrArch {
			t.Errorf("Print of %+v: %q, %d", i, text, e)
		}
	}
}
