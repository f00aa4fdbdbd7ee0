package litmus_test

import (
	"math"
	"slices"
	"strings"
	"testing"

	"belated/api"
	"belated/litmus"
)

// The chapter's examples.
func TestExamples(t *testing.T) {
	sb := "X86 SB\n{ x=1; }\nP0 | P1 ;\nMOVQ [x],$1 | MOVQ [y],$1 ;\nMOVQ RAX,[y] | MOVQ RAX,[x] ;\nexists (0:RAX=0 /\\ 1:RAX=0)\n"
	got := parse(sb)
	if got.e != api.OK || len(got.test.Code) != 2 || len(got.test.Code[0]) != 2 || len(got.test.Code[1]) != 2 {
		t.Errorf("9.3: %+v", got)
	}
	printed(t, got.test, sb)
	refused(t, "SPARC", api.ErrWord, 0)
	refused(t, "X86 a { } P0 ; MOV ; exists x=0", api.ErrEnd, 19)
	refused(t, "X86 a { x=1; x=2; } P0 ; exists x=0", api.ErrTwice, 13)
	refused(t, "X86 a { } P0 ; JZ RAX,L ; exists x=0", api.ErrLabel, 15)
}

// 9.5: what was parsed is right, and printed and parsed again it is the same;
// printed once more, the text is too.
func TestRoundTrip(t *testing.T) {
	again := func(text string) {
		t.Helper()
		first := parse(text)
		if first.e != api.OK {
			return
		}
		if e := litmus.Check(first.test); e != api.OK {
			t.Errorf("9.5: Check of %q is %d", text, e)
		}
		once, e := litmus.Print(first.test)
		second := parse(once)
		twice, f := litmus.Print(second.test)
		if e != api.OK || f != api.OK || !second.same(first) || once != twice {
			t.Errorf("9.5: %q is %+v, printed %q, that is %+v, printed %q", text, first, once, second, twice)
		}
	}
	for _, text := range samples {
		again(text)
		texts := cut(t, text)
		for k := range texts {
			for _, word := range vocabulary {
				other := slices.Clone(texts)
				other[k] = word
				again(strings.Join(other, " "))
				again(strings.Join(slices.Insert(slices.Clone(texts), k, word), " "))
			}
		}
	}
	d := drawn(95)
	for range 3000 {
		again(strings.Join(d.loose(d.test()), " "))
	}
}

// roomy is a list with room behind it that holds something.
func roomy[T any](list []T, behind T) (part, whole []T) {
	whole = append(slices.Clone(list), behind, behind)
	return whole[:len(list)], whole
}

// R3: a test that is handed in stays as it was, and the room behind its lists.
func TestKeepsArguments(t *testing.T) {
	test := parse(samples[2]).test
	test.Code[0], _ = roomy(test.Code[0], constant(7, 77))
	cs, allCs := roomy(test.Cond, locIs(2, 9))
	codes, allCodes := roomy(test.Code, code(constant(6, 66)))
	test.Cond, test.Code = cs, codes
	old, oldCs, oldCodes := clone(test), slices.Clone(allCs), clone(api.Test{Code: allCodes}).Code
	behind := slices.Clone(test.Code[0][:cap(test.Code[0])])
	var texts []string
	for range 2 {
		if e := litmus.Check(test); e != api.OK {
			t.Errorf("9.1: %d", e)
		}
		text, _ := litmus.Print(test)
		texts = append(texts, text)
	}
	if texts[0] != texts[1] || !same(test, old) || !slices.Equal(allCs, oldCs) || !same(api.Test{Code: allCodes}, api.Test{Code: oldCodes}) || !slices.Equal(test.Code[0][:cap(test.Code[0])], behind) {
		t.Error("R3: a test that was handed in was turned")
	}
}

// overwrite writes into all lists of a test, and into the room behind them.
func overwrite(t api.Test) {
	for n := range t.Cond[:cap(t.Cond)] {
		t.Cond[:cap(t.Cond)][n] = locIs(2, 99)
	}
	for _, c := range t.Code {
		for n := range c[:cap(c)] {
			c[:cap(c)][n] = constant(7, 99)
		}
	}
	for n := range t.Code[:cap(t.Code)] {
		t.Code[:cap(t.Code)][n] = code(constant(7, 98))
	}
}

// R3, R9: what is answered is new memory, and no two lists of it share any.
func TestAnswersAreNew(t *testing.T) {
	for _, text := range samples {
		first, second := parse(text), parse(text)
		was := told{test: clone(second.test)}
		overwrite(first.test)
		if third := parse(text); !second.same(was) || !third.same(was) {
			t.Errorf("R9: Parse(%q) shares memory: %+v, %+v", text, second, third)
		}
		for n, c := range second.test.Code {
			for k := range c[:cap(c)] {
				c[:cap(c)][k] = constant(n, 99)
			}
			for m := range n {
				if !slices.Equal(second.test.Code[m], slices.Repeat(code(constant(m, 99)), len(was.test.Code[m]))) {
					t.Errorf("R3: codes of %q share memory", text)
				}
			}
		}
	}
}

// R6: no call panics: tests with any fields, texts of any bytes.
func TestNoPanic(t *testing.T) {
	d := drawn(96)
	some := []int{0, 1, 2, 3, 4, 5, 6, 7, 8, 9, -1, math.MaxInt, math.MinInt}
	number := func() int { return pick(&d, some) }
	flag := func() bool { return d.below(2) == 0 }
	for range 30000 {
		test := api.Test{Arch: 1 + d.below(3), Name: pick(&d, []string{"a", "a", "b c"}), Quant: number(), Code: make([][]api.Ins, d.below(5)), Cond: make([]api.Cond, d.below(4))}
		for n := range test.Code {
			for range d.below(10) {
				i := api.Ins{Op: number(), Dst: number(), A: number(), B: number(), Imm: number(), Loc: number(), Off: number(), Index: number(), Size: number(), Fn: number(), Acq: flag(), Weak: flag(), Rel: flag(), Pred: number(), Succ: number(), To: number(), Zero: flag()}
				if d.below(4) > 0 {
					i = branch(d.below(8), flag(), number())
				}
				test.Code[n] = append(test.Code[n], i)
			}
		}
		for n := range test.Cond {
			test.Cond[n] = api.Cond{Kind: number(), Thread: number(), Reg: number(), Loc: number(), Value: number()}
		}
		test.Regs[d.below(3)][d.below(8)] = number()
		checked(t, test, modelCheck(test))
	}
	checked(t, api.Test{}, api.ErrArch)
	for range 30000 {
		text := []byte(pick(&d, samples))
		for range 1 + d.below(3) {
			text[d.below(len(text))] = byte(d.below(256))
		}
		sameParse(t, string(text))
		bytes := make([]byte, d.below(60))
		for n := range bytes {
			bytes[n] = byte(d.below(256))
		}
		sameParse(t, string(bytes))
	}
}
