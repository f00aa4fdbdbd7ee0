package cand_test

import (
	"fmt"
	"math"
	"slices"
	"testing"

	"belated/api"
	"belated/cand"
)

// roomy is a list with room behind it that holds something.
func roomy[T any](list []T, behind T) (part, whole []T) {
	whole = append(slices.Clone(list), behind, behind, behind)
	return whole[:len(list)], whole
}

func texts(runs []api.Run) []string {
	var out []string
	for _, r := range runs {
		out = append(out, whole(r))
	}
	return out
}

// R1, R3: what is handed in stays as it was, and the room behind it; nothing
// is kept, and what lies behind a list is not looked at.
func TestKeepsArguments(t *testing.T) {
	many(301, 16, func(x api.Test) {
		plain := x
		var rooms []code
		x.Code = nil
		for _, c := range plain.Code {
			part, room := roomy(c, load(0, 0))
			x.Code, rooms = append(x.Code, part), append(rooms, room)
		}
		codes, all := roomy(x.Code, code{put(0, 1)})
		x.Code = codes
		before := fmt.Sprint(x, rooms, all)
		runs := cand.Runs(x)
		if got, want := texts(runs), texts(cand.Runs(plain)); !slices.Equal(got, want) {
			t.Fatalf("R1: %v, want %v", got, want)
		}
		for _, r := range runs {
			events, roomE := roomy(r.Events, api.Event{Op: api.OpStore, Writes: true, Span: api.Span{Mask: 255}})
			order, roomO := roomy(r.Order, 0)
			sources, roomS := roomy(r.Sources, api.Source{})
			s := api.Run{Paths: r.Paths, Events: events, Order: order, Sources: sources, Outcome: r.Outcome}
			was := fmt.Sprint(s, roomE, roomO, roomS)
			if !slices.Equal(cand.Bind(x, s), cand.Bind(plain, r)) {
				t.Fatalf("R1: Bind of %+v", s)
			}
			if fmt.Sprint(s, roomE, roomO, roomS) != was {
				t.Fatalf("R3: Bind wrote to a list: %+v", s)
			}
		}
		if fmt.Sprint(x, rooms, all) != before {
			t.Fatalf("R3: a list was written to: %+v", x)
		}
	})
}

func wipe[T any](list []T, with T) {
	list = list[:cap(list)]
	for n := range list {
		list[n] = with
	}
}

// R3: each list that is answered is new memory, shared with no other one; the
// room behind it too.
func TestAnswersNewMemory(t *testing.T) {
	x := with(code{put(0, 1), load(0, 0), fence(3, 3), add(1, 7, 0)}, code{load(0, 0), ifZero(0, 3), put(1, 1)})
	before := fmt.Sprint(x)
	want := texts(cand.Runs(x))
	runs, other := cand.Runs(x), cand.Runs(x)
	for n, r := range runs {
		wipe(r.Events, api.Event{Op: 99})
		if got := whole(api.Run{Paths: r.Paths, Events: other[n].Events, Order: r.Order, Sources: r.Sources, Outcome: r.Outcome}); got != want[n] {
			t.Fatalf("R3: the events lie where the other lists of a Run do: %s", got)
		}
		wipe(r.Order, 99)
		if !slices.Equal(r.Sources, other[n].Sources) {
			t.Fatalf("R3: the order lies where the sources do: %v", r.Sources)
		}
		wipe(r.Sources, api.Source{Event: 99})
		if got := texts(runs[n+1:]); !slices.Equal(got, want[n+1:]) {
			t.Fatalf("R3: Runs share memory: %v", got)
		}
	}
	wipe(runs, api.Run{})
	if got := texts(other); !slices.Equal(got, want) {
		t.Errorf("R3: two answers share memory: %v", got)
	}
	if got := texts(cand.Runs(x)); !slices.Equal(got, want) || fmt.Sprint(x) != before {
		t.Errorf("R1: the next answer is %v", got)
	}
	names, bs := cand.Names(), cand.Bind(x, other[0])
	keptNames, keptBs := slices.Clone(names), slices.Clone(bs)
	wipe(cand.Names(), api.Decl{Name: "wiped"})
	wipe(cand.Bind(x, other[0]), api.Bound{Name: "wiped"})
	wipe(names, api.Decl{Name: "wiped"})
	wipe(bs, api.Bound{Name: "wiped"})
	if !slices.Equal(cand.Names(), keptNames) || !slices.Equal(cand.Bind(x, other[0]), keptBs) {
		t.Error("R3: Names or Bind tells of what was wiped")
	}
}

// R1: a call tells the same again.
func TestTellsTheSameAgain(t *testing.T) {
	many(302, 20, func(x api.Test) {
		first := cand.Runs(x)
		if second := cand.Runs(x); !slices.Equal(texts(first), texts(second)) {
			t.Fatalf("R1: %v, then %v", texts(first), texts(second))
		}
		for _, r := range first {
			if !slices.Equal(cand.Bind(x, r), cand.Bind(x, r)) {
				t.Fatalf("R1: Bind of %+v", r)
			}
		}
	})
}

// any draws an instruction that may be or not.
func (d *dice) any() api.Ins {
	i := api.Ins{Op: d.below(11), Dst: d.below(10) - 1, A: d.below(10) - 1, B: d.below(10) - 1, Index: d.below(10) - 1, Fn: d.below(8), To: d.below(10) - 1, Size: d.below(9), Imm: d.among(odd), Zero: d.flag()}
	for _, field := range []*int{&i.Op, &i.Dst, &i.A, &i.B, &i.Index, &i.Fn, &i.To, &i.Size, &i.Loc, &i.Off, &i.Pred, &i.Succ} {
		if d.below(8) == 0 {
			*field = d.among(odd)
		}
	}
	i.Acq, i.Weak, i.Rel = d.flag(), d.flag(), d.flag()
	return i
}

// wrong draws a test that may be right or not.
func (d *dice) wrong() api.Test {
	x := d.test(d.below(5))
	for range d.below(3) {
		switch d.below(8) {
		case 0:
			x.Code = append(x.Code, nil, code{put(0, 1)})
		case 1:
			x.Code = nil
		case 2:
			x.Code[0] = append(x.Code[0], slices.Repeat(code{d.any()}, d.below(12))...)
		case 3:
			x.Code[0] = slices.Repeat(code{d.op(3)}, d.below(12))
		case 4:
			x.Code[0] = slices.Repeat(code{ifZero(0, d.below(9))}, d.below(12))
		case 5:
			x.Arch, x.Name, x.Quant, x.Cond = d.among(odd), "", d.among(odd), nil
		case 6:
			x.Regs[2][7], x.Init[2] = math.MinInt, math.MaxInt
		case 7:
			if len(x.Code[0]) > 0 {
				x.Code[0] = slices.Clone(x.Code[0])
				x.Code[0][d.below(len(x.Code[0]))] = d.any()
			}
		}
		if len(x.Code) == 0 {
			break
		}
	}
	return x
}

func (d *dice) event() api.Event {
	e := api.Event{Thread: d.below(5) - 1, Pos: d.below(10) - 1, At: d.below(10) - 1, Op: d.below(10), Span: api.Span{Loc: d.below(4) - 1, Mask: d.below(257)}, Reads: d.flag(), Writes: d.flag(), Pred: d.below(4), Succ: d.below(4)}
	for _, field := range []*int{&e.Thread, &e.Pos, &e.At, &e.Op, &e.Span.Loc, &e.Span.Mask, &e.Old, &e.New, &e.Pred, &e.Succ} {
		if d.below(8) == 0 {
			*field = d.among(odd)
		}
	}
	return e
}

// run draws a Run that is none.
func (d *dice) run() api.Run {
	r := api.Run{Paths: [3]int{d.among(odd), d.below(3) - 1, d.below(2)}}
	for range d.below(40) {
		r.Events = append(r.Events, d.event())
	}
	for range d.below(40) {
		r.Order = append(r.Order, d.among(append(odd, d.below(40), d.below(8))))
	}
	for range d.below(80) {
		r.Sources = append(r.Sources, api.Source{Event: d.among(append(odd, d.below(40), d.below(8))), Byte: d.among(append(odd, d.below(8))), From: d.among(append(odd, d.below(40), -1))})
	}
	return r
}

// R6: no call panics. Bind tells of all names, whatever it is given.
func TestWrongInputs(t *testing.T) {
	d := dice(303)
	names := cand.Names()
	binds := func(x api.Test, r api.Run) {
		var told []api.Decl
		for _, b := range cand.Bind(x, r) {
			told = append(told, api.Decl{Name: b.Name, Set: b.Set})
		}
		if !slices.Equal(told, names) {
			t.Fatalf("11.3: Bind tells of %v", told)
		}
	}
	var last []api.Run
	for range 6000 {
		x := d.wrong()
		runs := cand.Runs(x)
		for _, r := range runs {
			binds(x, r)
		}
		for _, r := range last {
			binds(x, r)
		}
		for range 3 {
			binds(x, d.run())
		}
		last = runs[:min(len(runs), 4)]
	}
}

// A test whose codes are not right has no Runs.
func TestWrongCodes(t *testing.T) {
	one := code{put(0, 1)}
	for what, codes := range map[string][]code{
		"no code": {}, "four codes": {one, one, one, one}, "nine instructions": {slices.Repeat(code{isb()}, 9)},
		"seven operations": {slices.Repeat(one, 6), one}, "four branches": {slices.Repeat(code{ifZero(0, 4)}, 4)},
		"no instruction": {{{}}}, "a branch back": {{isb(), ifZero(0, 0)}}, "a branch to itself": {{ifZero(0, 0)}}, "a branch past the end": {{ifZero(0, 2)}},
		"a size of 3": {{part(0, 3, load(0, 0))}}, "an offset of 1": {{part(1, 2, load(0, 0))}}, "location 3": {{load(0, 3)}}, "register 8": {{load(8, 0)}}, "index 8": {{by(8, load(0, 0))}},
		"both Acq and Weak": {{acq(weak(load(0, 0)))}}, "a fence of nothing": {{fence(0, 3)}}, "a sum that is none": {{rmw(api.FnSub, 0, 7, 0)}},
		"the last one": {one, one, {load(0, -1)}},
	} {
		if runs := cand.Runs(api.Test{Arch: api.ARM, Name: "t", Code: codes}); len(runs) != 0 {
			t.Errorf("%s: %d Runs", what, len(runs))
		}
	}
	if runs := cand.Runs(api.Test{}); len(runs) != 0 {
		t.Errorf("no test: %d Runs", len(runs))
	}
}

// A Run of one test is handed in with another one.
func TestRunsOfAnotherTest(t *testing.T) {
	list := []api.Test{
		{}, with(nil), with(code{load(0, 0)}), with(nil, nil, nil), with(code{load(0, 0), ifZero(0, 3), by(0, store(0, 1))}, code{put(0, 1)}),
		with(code{swap(0, 7, 0), fence(3, 3), isb()}, code{load(0, 0), load(1, 0)}, code{part(4, 4, put(0, 1))}),
		{Code: []code{{{}}, nil, nil, nil}}, {Code: []code{slices.Repeat(code{ifZero(0, 2)}, 50)}},
	}
	for _, x := range list {
		for _, y := range list {
			for _, r := range cand.Runs(y) {
				if bs := cand.Bind(x, r); len(bs) != 24 {
					t.Errorf("11.3: Bind tells of %d names", len(bs))
				}
				r.Paths = [3]int{1, -1, math.MaxInt}
				cand.Bind(x, r)
				r.Events = r.Events[len(r.Events)/2:]
				cand.Bind(x, r)
			}
		}
	}
}

// R8: each ends, however long what is given.
func TestEnds(t *testing.T) {
	const long = 200000
	r := api.Run{Events: make([]api.Event, long), Order: make([]int, long), Sources: make([]api.Source, long)}
	for n := range long {
		r.Events[n] = api.Event{Thread: n % 3, Pos: n, Op: api.OpRmw, Reads: true, Writes: true, Span: api.Span{Mask: 255}}
		r.Order[n] = long - n
		r.Sources[n] = api.Source{Event: n / 8, Byte: n % 8, From: n/8 - 1}
	}
	x := with(slices.Repeat(code{load(0, 0), ifZero(0, 2), put(0, 1)}, long))
	cand.Bind(x, r)
	cand.Bind(with(code{load(0, 0)}), r)
	if len(cand.Runs(x)) != 0 {
		t.Error("a code that is too long has Runs")
	}
	cand.Runs(api.Test{Code: make([]code, long)})
	cand.Bind(api.Test{Code: make([]code, long)}, r)
}
