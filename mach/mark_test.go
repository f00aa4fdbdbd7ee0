package mach_test

import (
	"math"
	"testing"

	"belated/api"
	"belated/mach"
)

// 14.3: a Copy goes on while the one it was made of stays, and the other way round.
func TestCopy(t *testing.T) {
	codes := []code{{load(0, x), aluImm(api.FnAdd, 1, 0, 1), store(1, y)}, {isb(), load(2, y)}}
	for _, copied := range []bool{true, false} {
		c := core(t, codes, file{7: 1}, file{7: 2})
		passes(t, c, 1, 0)
		d := c.Copy()
		goes, stays := c, d
		if copied {
			goes, stays = d, c
		}
		ahead := [2]stood{told(c, 0), told(c, 1)}
		mark := c.Mark()
		for thread := range ahead {
			tells(t, "14.3: a Copy", d, thread, ahead[thread])
		}
		if d.Mark() != mark || d.Threads() != 2 {
			t.Errorf("14.3: a Copy has the Mark %q, %d threads, want %q", d.Mark(), d.Threads(), mark)
		}
		passes(t, goes, 0, 5)
		passes(t, goes, 1, 6)
		passes(t, goes, 0, 0)
		for thread := range ahead {
			tells(t, "14.3: one stays while the other goes on", stays, thread, ahead[thread])
		}
		if stays.Mark() != mark {
			t.Errorf("14.3: the Mark of one that stays: %q, want %q", stays.Mark(), mark)
		}
		tells(t, "14.3: one that goes on", goes, 0, stood{at: 3, regs: file{0: 5, 1: 6, 7: 1}})
		tells(t, "14.3: one that goes on", goes, 1, stood{at: 2, regs: file{2: 6, 7: 2}})
		passes(t, stays, 0, 8)
		tells(t, "14.3: it goes on later", stays, 0, stood{at: 2, ready: true, ins: store(1, y), regs: file{0: 8, 1: 9, 7: 1}, spot: true, span: api.Span{Loc: y, Mask: 255}, datum: 9})
		tells(t, "14.3: while the other stays", goes, 0, stood{at: 3, regs: file{0: 5, 1: 6, 7: 1}})
	}
}

// 14.3: a Copy of a Copy, of one at the end.
func TestCopies(t *testing.T) {
	c := alone(t, file{}, load(0, x), load(1, x), load(2, x))
	row := []*mach.Core{c}
	for n := range 3 {
		next := row[n].Copy()
		passes(t, next, 0, n+10)
		row = append(row, next)
	}
	row = append(row, row[3].Copy())
	for n, want := range []stood{
		{ready: true, ins: load(0, x), spot: true, span: api.Span{Mask: 255}},
		{at: 1, ready: true, ins: load(1, x), regs: file{10}, spot: true, span: api.Span{Mask: 255}},
		{at: 2, ready: true, ins: load(2, x), regs: file{10, 11}, spot: true, span: api.Span{Mask: 255}},
		{at: 3, regs: file{10, 11, 12}},
		{at: 3, regs: file{10, 11, 12}},
	} {
		tells(t, "14.3: in a row of Copies", row[n], 0, want)
	}
	if row[4].Pass(0, 1) {
		t.Error("14.3: Pass of a Copy at its end is true")
	}
}

// same, apart: two cores of one test have one Mark, have not.
func same(t *testing.T, what string, c, d *mach.Core) {
	t.Helper()
	if c.Mark() != d.Mark() {
		t.Errorf("14.3: %s: Marks %q and %q", what, c.Mark(), d.Mark())
	}
}

func apart(t *testing.T, what string, c, d *mach.Core) {
	t.Helper()
	if c.Mark() == d.Mark() {
		t.Errorf("14.3: %s: one Mark %q", what, c.Mark())
	}
}

// 14.3: two that stand alike with the same registers, with others, that stand apart.
func TestMarks(t *testing.T) {
	codes := []code{{load(0, x), load(1, x), konst(0, 0), konst(1, 0), isb(), isb()}, {load(0, x), load(1, x)}}
	after := func(picks ...[2]int) *mach.Core {
		c := core(t, codes)
		for _, p := range picks {
			passes(t, c, p[0], p[1])
		}
		return c
	}
	same(t, "both at first", after(), after())
	same(t, "threads in another order", after([2]int{0, 3}, [2]int{1, 4}), after([2]int{1, 4}, [2]int{0, 3}))
	same(t, "what was read is gone", after([2]int{0, 1}, [2]int{0, 2}), after([2]int{0, 8}, [2]int{0, 9}))
	same(t, "at the end", after([2]int{1, 1}, [2]int{1, 2}), after([2]int{1, 1}, [2]int{1, 2}))
	apart(t, "other registers", after([2]int{0, 3}), after([2]int{0, 4}))
	apart(t, "a register, its negative", after([2]int{0, 3}), after([2]int{0, -3}))
	apart(t, "both ends of an int", after([2]int{0, math.MinInt}), after([2]int{0, math.MaxInt}))
	apart(t, "the lowest byte alone is the same", after([2]int{0, 1}), after([2]int{0, 1 + 1<<32}))
	apart(t, "the highest bit alone is not", after([2]int{0, 0}), after([2]int{0, math.MinInt}))
	apart(t, "another register", after([2]int{1, 5}, [2]int{1, 0}), after([2]int{1, 0}, [2]int{1, 5}))
	apart(t, "digits that run on alike", after([2]int{1, 1}, [2]int{1, 11}), after([2]int{1, 11}, [2]int{1, 1}))
	apart(t, "digits and a sign that run on alike", after([2]int{1, 1}, [2]int{1, -1}), after([2]int{1, -1}, [2]int{1, 1}))
	apart(t, "another thread", after([2]int{0, 5}), after([2]int{1, 5}))
	apart(t, "another thread that read 0", after([2]int{0, 0}), after([2]int{1, 0}))
	apart(t, "at first, and further with the same registers", after(), after([2]int{0, 0}))
	apart(t, "ahead of an OpIsb, ahead of the next", after([2]int{0, 1}, [2]int{0, 1}), after([2]int{0, 1}, [2]int{0, 1}, [2]int{0, 0}))
	apart(t, "ahead of the last, at the end", after([2]int{0, 1}, [2]int{0, 1}, [2]int{0, 0}), after([2]int{0, 1}, [2]int{0, 1}, [2]int{0, 0}, [2]int{0, 0}))
	for reg := range api.MaxRegs {
		for thread := range api.MaxThreads {
			least := make([]code, api.MaxThreads)
			var regs [api.MaxThreads]file
			least[thread] = code{load(reg, x)}
			c := core(t, least, regs[:]...)
			d := c.Copy()
			passes(t, c, thread, 1)
			passes(t, d, thread, 2)
			apart(t, "one register of one thread", c, d)
		}
	}
}

// 14.3: no three registers in a row are written as three others, whatever
// stands between the digits of two.
func TestMarksOfDigits(t *testing.T) {
	start := alone(t, file{}, load(0, x), load(1, x), load(2, x), isb())
	values := []int{0, 1, 5, 10, 11, 100, 101, 105, 110, 1000, 1001, -1, -10, -11, -105, -1 << 63, 1<<63 - 1}
	seen := map[string][3]int{}
	for _, a := range values {
		for _, b := range values {
			for _, v := range values {
				c := start.Copy()
				passes(t, c, 0, a, b, v)
				if other, is := seen[c.Mark()]; is {
					t.Errorf("14.3: %v and %v have one Mark %q", other, [3]int{a, b, v}, c.Mark())
				}
				seen[c.Mark()] = [3]int{a, b, v}
			}
		}
	}
}

// 14.3: a Mark tells nothing of how it was come to, and turns nothing.
func TestMarkTurnsNothing(t *testing.T) {
	c := core(t, []code{{load(0, x), isb()}, {fence(1, 2)}}, file{3: 3}, file{4: -4})
	d := c.Copy()
	for _, thread := range []int{0, 1, 0} {
		mark := c.Mark()
		for range 3 {
			if c.Mark() != mark {
				t.Errorf("R1: Mark %q, then %q", mark, c.Mark())
			}
		}
		passes(t, c, thread, 6)
		passes(t, d, thread, 6)
		same(t, "one was asked for its Mark more often", c, d)
		for thread := range 2 {
			tells(t, "14.3: one was asked for its Mark more often", c, thread, told(d, thread))
		}
	}
}
