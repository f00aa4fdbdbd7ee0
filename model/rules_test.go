package model_test

import (
	"fmt"
	"math"
	"slices"
	"strings"
	"testing"

	"belated/api"
	"belated/cand"
	"belated/cat"
	"belated/model"
)

// roomy is a list with room behind it that holds something.
func roomy[T any](list []T, behind T) (part, whole []T) {
	whole = append(slices.Clone(list), behind, behind, behind)
	return whole[:len(list)], whole
}

// R1, R3: what is handed in stays as it was, and the room behind it; nothing is
// kept, and what lies behind a list is not looked at.
func TestKeepsArguments(t *testing.T) {
	d := dice(700)
	for n := range 200 {
		plain := d.knot(every[n%3], 1+d.below(4))
		x := plain
		var rooms []code
		x.Code = nil
		for _, c := range plain.Code {
			part, room := roomy(c, load(0, 0))
			x.Code, rooms = append(x.Code, part), append(rooms, room)
		}
		codes, all := roomy(x.Code, code{one(0)})
		cs, conds := roomy(x.Cond, api.Cond{Kind: api.CondNot})
		x.Code, x.Cond = codes, cs
		for _, list := range [][]string{nil, {""}, {model.Text(0)}, {d.text(), d.text()}, {model.Text(plain.Arch), "acyclic nobody", ""}} {
			texts, lines := roomy(list, "no text")
			before := fmt.Sprint(x, rooms, all, conds, lines)
			want, wantE, wantAt := model.Allowed(plain, slices.Clone(list)...)
			got, e, at := model.Allowed(x, texts...)
			if !slices.Equal(got, want) || e != wantE || at != wantAt {
				t.Fatalf("R1: %v, %d at %d, want %v, %d at %d", got, e, at, want, wantE, wantAt)
			}
			if after := fmt.Sprint(x, rooms, all, conds, lines); after != before {
				t.Fatalf("R3: a list was written to:\n%s\n%s", before, after)
			}
		}
	}
}

// R1, R3: what is answered is new memory, the room behind it too; a call tells
// the same again, whatever became of what was answered.
func TestAnswersNewMemory(t *testing.T) {
	for _, arch := range every {
		test := on(arch, sb...)
		texts := []string{model.Text(arch), ""}
		want := slices.Clone(allowed(t, test, texts...))
		first, second := allowed(t, test, texts...), allowed(t, test, texts...)
		wipe := func(l []api.Outcome) {
			l = l[:cap(l)]
			for n := range l {
				l[n] = api.Outcome{Mem: [3]int{9, 9, 9}}
			}
		}
		wipe(first)
		if !slices.Equal(second, want) {
			t.Errorf("R3: two answers share memory: %v", second)
		}
		wipe(second)
		if got := allowed(t, test, texts...); !slices.Equal(got, want) {
			t.Errorf("R1: the next answer is %v", got)
		}
		if got := allowed(t, test); !slices.Equal(got, want) {
			t.Errorf("R1: with no text %v", got)
		}
	}
}

// spoilt draws a text that was one of a model.
func (d *dice) spoilt() string {
	text := model.Text(d.below(4))
	words := strings.Fields(text)
	other := []string{"(", ")", "[", "]", "*", "^-1", "?", "+", ";", "|", `\`, "&", "0", "1", "let", "rec", "and", "as", "po", "M", "mem", "@", "(*", "*)", "acyclic", "empty", "=", "0x", "\x00", "\xff", "é"}
	for range 1 + d.below(3) {
		at := d.below(len(words))
		switch d.below(5) {
		case 0:
			words = slices.Delete(words, at, at+1)
		case 1:
			words[at] = other[d.below(len(other))]
		case 2:
			words = slices.Insert(words, at, other[d.below(len(other))])
		case 3:
			words = words[:at]
		case 4:
			to := d.below(len(words))
			words[at], words[to] = words[to], words[at]
		}
		if len(words) == 0 {
			break
		}
	}
	return strings.Join(words, " ")
}

// bytes draws any bytes at all.
func (d *dice) bytes() string {
	b := make([]byte, d.below(40))
	for n := range b {
		b[n] = byte(d.below(256))
	}
	return string(b)
}

// R6: no call panics, whatever the texts are; they are taken, or refused as
// chapter 12 has it.
func TestAnyTexts(t *testing.T) {
	t.Parallel()
	d := dice(701)
	tests := []api.Test{on(api.X86, nil), on(api.ARM, sb...), on(api.RISCV, code{load(0, x), ifZero(0, 2), one(x)}, code{add(0, 7, x)})}
	var taken, refused int
	for n := range 20000 {
		text := d.spoilt()
		if n%4 == 0 {
			text = d.bytes()
		}
		got, e, at := model.Allowed(tests[n%3], text)
		_, wantE, wantAt := cat.Parse(text, cand.Names()...)
		if e != wantE || at != wantAt || e != api.OK && len(got) > 0 || at < 0 || at > len(text) {
			t.Fatalf("13.2: %q: %v, error %d at %d, want %d at %d", text, got, e, at, wantE, wantAt)
		}
		if e == api.OK {
			taken++
		} else {
			refused++
		}
	}
	if taken < 200 || refused < 5000 {
		t.Errorf("drawn too thin: %d texts are taken, %d are not", taken, refused)
	}
	for b := range 256 {
		model.Allowed(tests[1], string([]byte{byte(b)}))
		model.Allowed(tests[1], "acyclic po "+string([]byte{byte(b)})+" rf")
	}
}

// R6: of tests that are not right nothing is said but that nothing panics.
func TestWrongTests(t *testing.T) {
	t.Parallel()
	odd := []int{math.MinInt, -1 << 32, -9, -1, 0, 1, 2, 3, 4, 7, 8, 9, 31, 32, 33, 64, 255, 1 << 32, math.MaxInt}
	d := dice(702)
	for range 4000 {
		test := d.test(every[d.below(3)], d.below(4))
		for range 1 + d.below(3) {
			switch d.below(6) {
			case 0:
				test.Arch = d.among(odd)
			case 1:
				test.Name, test.Quant, test.Cond = "", d.among(odd), nil
			case 2:
				test.Code = append(test.Code, nil, code{one(x)})
			case 3:
				test.Regs[2][7], test.Init[2] = math.MinInt, math.MaxInt
			case 4:
				test.Code = test.Code[:len(test.Code)/2]
			case 5:
				if len(test.Code) == 0 || len(test.Code[0]) == 0 {
					continue
				}
				i := &test.Code[0][d.below(len(test.Code[0]))]
				fields := []*int{&i.Op, &i.Dst, &i.A, &i.B, &i.Imm, &i.Loc, &i.Off, &i.Index, &i.Size, &i.Fn, &i.Pred, &i.Succ, &i.To}
				*fields[d.below(len(fields))] = d.among(odd)
			}
		}
		model.Allowed(test)
		model.Allowed(test, d.text())
		if _, e, at := model.Allowed(test, "acyclic M"); e != api.ErrType || at != 8 {
			t.Fatalf("13.2: of a wrong test: error %d at %d", e, at)
		}
	}
	model.Allowed(api.Test{})
	model.Allowed(api.Test{Arch: math.MaxInt}, "", "x")
	model.Allowed(on(api.X86, make([]code, 3)...))
	model.Allowed(api.Test{Arch: api.ARM, Code: make([]code, 5000)})
	model.Allowed(api.Test{Arch: api.ARM, Code: []code{slices.Repeat(code{load(0, x), ifZero(0, 2)}, 50000)}})
}

// R8: each ends, however long the texts are, and however many.
func TestEnds(t *testing.T) {
	t.Parallel()
	test := on(api.ARM, sb...)
	if _, e, at := model.Allowed(test, strings.Repeat("(", 1<<20)); e != api.ErrLong || at != 0 {
		t.Errorf("a long text: error %d at %d", e, at)
	}
	row := "acyclic po" + strings.Repeat("|po", (api.MaxModel-10)/3)
	if got := allowed(t, test, row); len(got) != 4 {
		t.Errorf("a long row: %v", got)
	}
	if got := allowed(t, test, "empty po"+strings.Repeat("^-1", (api.MaxModel-8)/3)); len(got) != 0 {
		t.Errorf("a long row behind one: %v", got)
	}
	if got := allowed(t, test, "empty "+strings.Repeat("(", 32)+"0"+strings.Repeat(")", 32)); len(got) != 4 {
		t.Errorf("deep brackets: %v", got)
	}
	if got := allowed(t, test, slices.Repeat([]string{model.Text(0)}, 500)...); len(got) != 3 {
		t.Errorf("many texts: %v", got)
	}
	if got := allowed(t, test, append(make([]string, 20000), "empty M")...); len(got) != 0 {
		t.Errorf("many empty texts: %v", got)
	}
	rec := "let rec a = po | b^-1 and b = c | a ; a and c = rf | b ; fr? acyclic a & b"
	allowed(t, test, rec)
	most := on(api.RISCV, code{one(x), one(y)}, code{two(x), two(y)}, code{store(5, x), store(4, y)})
	if got := allowed(t, most); len(got) != 9 {
		t.Errorf("six stores: %v", got)
	}
	if got := allowed(t, most, ""); len(got) != 9 {
		t.Errorf("six stores, by no model: %v", got)
	}
	branches := on(api.ARM, code{load(0, x), ifZero(0, 2), load(1, y)}, code{load(0, y), ifZero(0, 3), one(x)}, code{load(0, x), unless(0, 3), one(y)})
	right(t, "branches", branches)
	if got, want := allowed(t, branches), outcomesOfRows(branches); !slices.Equal(got, want) {
		t.Errorf("13.3: branches: %v, want %v", got, want)
	}
}
