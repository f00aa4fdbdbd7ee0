package model_test

import (
	"slices"
	"strings"
	"testing"

	"belated/api"
	"belated/cond"
	"belated/litmus"
	"belated/model"
)

// 13.4: a model with more in its order allows no more.
func TestMoreInTheOrder(t *testing.T) {
	t.Parallel()
	pieces := []string{"po", "rf", "co", "fr", "corr", "addr", "data", "ctrl", "[W] ; po ; [R]", "[R] ; po ; [R]", "[R] ; po ; [W]", "[W] ; po ; [W]", "rf & ext", "po & ov", "[X] ; po", "po ; [X]", "[M] ; po ; [F] ; po ; [M]", "rf ; fr", "int", "ext & ov"}
	d := dice(600)
	fewer := 0
	for n := range 2000 {
		test := d.knot(every[n%3], 3+d.below(3))
		less := model.Text(d.below(4))
		if d.flag() {
			less = "acyclic 0"
			for range d.below(6) {
				less += " | " + pieces[d.below(len(pieces))]
			}
			less += " as order"
		}
		more := strings.Replace(less, " as order", " | "+pieces[d.below(len(pieces))]+" as order", 1)
		all, some := allowed(t, test, less), allowed(t, test, more)
		if !contains(all, some) {
			t.Fatalf("13.4: of %+v %q allows more than %q:\n%v\n%v", test, more, less, some, all)
		}
		if len(some) < len(all) {
			fewer++
		}
		if both := allowed(t, test, less, more); !slices.Equal(both, some) {
			t.Fatalf("13.2: of %+v %q and %q: %v, want %v", test, less, more, both, some)
		}
	}
	if fewer < 100 {
		t.Errorf("drawn too thin: only %d times is less allowed", fewer)
	}
}

// with is a code with an instruction put in at an index, and its branches going
// where they went: to what is put in, if they went to what stood there.
func with(c code, at int, i api.Ins) code {
	c = slices.Insert(slices.Clone(c), at, i)
	for k := range c {
		if c[k].Op == api.OpBranch && c[k].To > at {
			c[k].To++
		}
	}
	return c
}

// stronger draws a test with a fence, an acquire or a release more; that is not
// always right, or another one.
func (d *dice) stronger(test api.Test) api.Test {
	test.Code = slices.Clone(test.Code)
	thread := d.below(len(test.Code))
	c := slices.Clone(test.Code[thread])
	test.Code[thread] = c
	if len(c) == 0 || d.below(3) == 0 {
		test.Code[thread] = with(c, d.below(len(c)+1), d.fence(test.Arch))
		return test
	}
	switch i := &c[d.below(len(c))]; {
	case i.Op == api.OpLoad && !i.Weak && d.flag():
		i.Weak = !i.Acq
	case reads(*i):
		i.Acq, i.Weak = true, false
	case i.Op == api.OpStore:
		i.Rel = true
	case i.Op == api.OpFence:
		i.Pred, i.Succ = 3, 3
	}
	if i := &c[d.below(len(c))]; i.Op == api.OpRmw {
		i.Rel = true
	}
	return test
}

// W6: what a stronger test allows a weaker one does.
func TestStrongerTests(t *testing.T) {
	t.Parallel()
	d := dice(601)
	held, fewer := 0, 0
	strengthen := func(test api.Test) {
		more := d.stronger(test)
		if litmus.Check(more) != api.OK {
			return
		}
		all, some := allowed(t, test), allowed(t, more)
		if !contains(all, some) {
			t.Fatalf("W6: %+v\nallows more than %+v:\n%v\n%v", more, test, some, all)
		}
		held++
		if len(some) < len(all) {
			fewer++
		}
	}
	for _, arch := range every {
		small(arch, []int{api.X86: 3, api.RISCV: 97, api.ARM: 29}[arch], strengthen)
		for range 400 {
			strengthen(d.knot(arch, 4+d.below(3)))
		}
	}
	if held < 1000 || fewer < 50 {
		t.Errorf("drawn too thin: of %d stronger tests %d allow less", held, fewer)
	}
}

// W6: with a full fence between any two memory operations nothing is allowed
// but what interleavings come to.
func TestFullFences(t *testing.T) {
	t.Parallel()
	held, fewer := 0, 0
	for n, arch := range every {
		many(t, 610+n, 6, arch, func(test api.Test) {
			fenced := test
			fenced.Code = slices.Clone(test.Code)
			for thread, c := range test.Code {
				for at := len(c) - 1; at > 0; at-- {
					if (reads(c[at]) || writes(c[at])) && slices.ContainsFunc(c[:at], func(i api.Ins) bool { return reads(i) || writes(i) }) {
						fenced.Code[thread] = with(fenced.Code[thread], at, full)
					}
				}
			}
			if litmus.Check(fenced) != api.OK {
				return
			}
			got, want := allowed(t, fenced), walks(test, false)
			if !slices.Equal(got, want) {
				t.Fatalf("W6: %+v:\n got %v\nwant %v", fenced, got, want)
			}
			held++
			if len(allowed(t, test)) > len(got) {
				fewer++
			}
		})
	}
	if held < 500 || fewer < 30 {
		t.Errorf("drawn too thin: %d tests, of which %d allow more without fences", held, fewer)
	}
}

// W7: a test of one thread has one outcome; threads in another order come to
// the same, in that order.
func TestThreads(t *testing.T) {
	t.Parallel()
	single := 0
	for n, arch := range every {
		d := dice(620 + n)
		many(t, 630+n, 8, arch, func(test api.Test) {
			alone := test
			alone.Code, alone.Regs = test.Code[:1], [api.MaxThreads][api.MaxRegs]int{test.Regs[0]}
			if got, want := allowed(t, alone), walks(alone, false); len(got) != 1 || !slices.Equal(got, want) {
				t.Fatalf("W7: %+v alone:\n got %v\nwant %v", alone, got, want)
			}
			single++
			turn := d.below(len(test.Code))
			turned := test
			turned.Code = slices.Concat(test.Code[turn:], test.Code[:turn])
			for thread := range test.Code {
				turned.Regs[thread] = test.Regs[(thread+turn)%len(test.Code)]
			}
			var back []api.Outcome
			for _, o := range allowed(t, turned) {
				regs := o.Regs
				for thread := range test.Code {
					o.Regs[(thread+turn)%len(test.Code)] = regs[thread]
				}
				back = append(back, o)
			}
			if got, want := cond.Sort(back...), allowed(t, test); !slices.Equal(got, want) {
				t.Fatalf("W7: %+v\nwith its threads turned by %d:\n got %v\nwant %v", test, turn, got, want)
			}
		})
	}
	if single < 500 {
		t.Errorf("drawn too thin: %d tests", single)
	}
}

// W8: where all accesses touch the same eight bytes, each thread reads in one
// order of writes: so all that is allowed some interleaving comes to.
func TestCoherence(t *testing.T) {
	t.Parallel()
	for n, arch := range every {
		d := dice(640 + n)
		for range 400 {
			test := d.knot(arch, 3+d.below(3))
			for _, c := range test.Code {
				for at := range c {
					if i := &c[at]; reads(*i) || writes(*i) {
						i.Loc, i.Off, i.Size = x, 0, 8
					}
				}
			}
			right(t, "one location", test)
			if got, want := allowed(t, test), walks(test, false); !slices.Equal(got, want) {
				t.Fatalf("W8: %+v:\n got %v\nwant %v", test, got, want)
			}
		}
	}
}

// W9: where x86 writes nothing but what RISC-V and Arm write, these allow at
// least what it does; and both the same, where neither writes more.
func TestOneCore(t *testing.T) {
	t.Parallel()
	var held [2]int
	for n, arch := range every {
		many(t, 650+n, 6, arch, func(test api.Test) {
			as := func(arch int) ([]api.Outcome, bool) {
				test.Arch = arch
				if litmus.Check(test) != api.OK {
					return nil, false
				}
				return allowed(t, test), true
			}
			strong, onX86 := as(api.X86)
			riscv, onRISCV := as(api.RISCV)
			arm, onARM := as(api.ARM)
			if onRISCV && onARM {
				held[0]++
				if !slices.Equal(riscv, arm) {
					t.Fatalf("W9: %+v: RISC-V %v\nArm %v", test, riscv, arm)
				}
			}
			if onX86 && onRISCV && onARM {
				held[1]++
				if !contains(riscv, strong) {
					t.Fatalf("W9: %+v: x86 %v\nRISC-V %v", test, strong, riscv)
				}
			}
		})
	}
	if slices.Min(held[:]) < 300 {
		t.Errorf("drawn too thin: %v", held)
	}
}
