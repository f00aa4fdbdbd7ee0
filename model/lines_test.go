package model_test

import (
	"slices"
	"testing"

	"belated/api"
	"belated/cand"
	"belated/cat"
	"belated/model"
	"belated/rel"
)

// line is a piece of a model's text, and a test of which that piece alone
// forbids what is asked for: with instead in its place it is allowed. Beside it
// stand tests, nearly the same, of which it is allowed.
type line struct {
	piece, instead string
	codes          []code
	asked          string
	beside         [][]code
}

// alone holds lines against an architecture's model, where it has all their
// instructions; it tells of how many that is so. Of architecture 0 the tests
// are x86's.
func alone(t *testing.T, arch int, lines ...line) int {
	t.Helper()
	n := 0
	for _, l := range lines {
		test := on(arch, l.codes...)
		if arch == 0 {
			test.Arch = api.X86
		}
		if !isRight(test.Arch, l.codes) {
			continue
		}
		n++
		if comesTo(t, test, l.asked, model.Text(arch)) || arch != 0 && comesTo(t, test, l.asked) {
			t.Errorf("13.1: on %d, %q: %q is allowed", arch, l.piece, l.asked)
		}
		if !comesTo(t, test, l.asked, without(t, docOf(arch), l.piece, l.instead)) {
			t.Errorf("on %d %q is not what alone forbids %q", arch, l.piece, l.asked)
		}
		for k, codes := range l.beside {
			if test.Code = codes; isRight(test.Arch, codes) && !comesTo(t, test, l.asked, model.Text(arch)) {
				t.Errorf("13.1: on %d, beside %q, %d: %q is not allowed", arch, l.piece, k, l.asked)
			}
			if !slices.ContainsFunc(every, func(a int) bool { return isRight(a, codes) }) {
				t.Errorf("beside %q, %d: the test is right nowhere", l.piece, k)
			}
		}
	}
	return n
}

func TestLinesOfInterleavings(t *testing.T) {
	sb := threads(code{one(x), load(0, y)}, code{one(y), load(0, x)})
	mp := threads(code{one(x), one(y)}, code{load(0, y), load(1, x)})
	lines := []line{
		{"po | ", "", sb, "0:0=0 1:0=0", [][]code{threads(code{load(0, y), one(x)}, code{load(0, x), one(y)}), threads(code{one(x), load(0, y)}, code{load(0, x), one(y)})}},
		{"po | ", "", threads(code{load(0, x), one(y)}, code{load(0, y), one(x)}), "0:0=1 1:0=1", [][]code{threads(code{load(0, x), one(y)}, code{one(x), load(0, y)})}},
		{"po", "(po & ov)", mp, "1:0=1 1:1=0", [][]code{threads(code{one(x), one(y)}, code{load(1, x), load(0, y)}), threads(code{one(y), one(x)}, code{load(0, y), load(1, x)})}},
		{"rf | ", "", mp, "1:0=1 1:1=0", nil},
		{"co | ", "", threads(code{one(x), two(y)}, code{one(y), two(x)}), "x=1 y=1", [][]code{threads(code{two(y), one(x)}, code{two(x), one(y)}), threads(code{one(x), two(y)}, code{two(x), one(y)})}},
		{" | fr", "", sb, "0:0=0 1:0=0", nil},
	}
	if n := alone(t, 0, lines...); n != len(lines) {
		t.Errorf("%d lines were held, want %d", n, len(lines))
	}
}

func TestLinesOfX86(t *testing.T) {
	sbf := threads(code{one(x), full, load(0, y)}, code{one(y), full, load(0, x)})
	mp := threads(code{one(x), one(y)}, code{load(0, y), load(1, x)})
	lines := []line{
		// Of stores, of loads, of a load and a store; not of a store and a load.
		{"(W * R)", "(W * M)", mp, "1:0=1 1:1=0", [][]code{threads(code{one(y), one(x)}, code{load(0, y), load(1, x)})}},
		{"(W * R)", "(M * R)", mp, "1:0=1 1:1=0", [][]code{threads(code{one(x), one(y)}, code{load(1, x), load(0, y)})}},
		{"(W * R)", "(M * W)", threads(code{load(0, x), one(y)}, code{load(0, y), one(x)}), "0:0=1 1:0=1", [][]code{threads(code{load(0, x), one(y)}, code{one(x), load(0, y)})}},
		{"(W * R)", "(W * M)", threads(code{one(x), two(y)}, code{one(y), two(x)}), "x=1 y=1", [][]code{threads(code{one(x), two(y)}, code{two(x), one(y)})}},
		{" | [X] ; mem", "", threads(code{locked(7, x), load(0, y)}, code{one(y), full, load(0, x)}), "0:0=0 1:0=0", [][]code{
			threads(code{one(x), load(0, y)}, code{one(y), full, load(0, x)}), threads(code{locked(7, x), load(0, y)}, code{one(y), load(0, x)}),
		}},
		{" | mem ; [X]", "", threads(code{one(x), locked(0, y)}, code{one(y), full, load(0, x)}), "0:0=0 1:0=0", [][]code{
			threads(code{one(x), load(0, y)}, code{one(y), full, load(0, x)}), threads(code{locked(0, y), one(x)}, code{one(y), full, load(0, x)}),
		}},
		{" | [X] ; mem | mem ; [X]", "", threads(code{locked(7, x), locked(0, y)}, code{one(y), full, load(0, x)}), "0:0=0 1:0=0", nil},
		{" | fence", "", sbf, "0:0=0 1:0=0", [][]code{
			threads(code{one(x), load(0, y), full}, code{one(y), load(0, x), full}), threads(code{full, one(x), load(0, y)}, code{full, one(y), load(0, x)}),
			threads(code{one(x), full, load(0, y)}, code{one(y), load(0, x)}),
		}},
		{" | rfx", "", mp, "1:0=1 1:1=0", nil},
		{" | co", "", threads(code{one(x), two(y)}, code{one(y), two(x)}), "x=1 y=1", nil},
		{" | fr", "", sbf, "0:0=0 1:0=0", nil},
	}
	if n := alone(t, api.X86, lines...); n != len(lines) {
		t.Errorf("%d lines were held, want %d", n, len(lines))
	}
	// Any fence is a full one to it, those that x86 does not write too; an OpIsb is none.
	for pred := 1; pred <= 3; pred++ {
		for succ := 1; succ <= 3; succ++ {
			f := fence(pred, succ)
			if comesTo(t, on(api.RISCV, code{one(x), f, load(0, y)}, code{one(y), f, load(0, x)}), askedSB, model.Text(api.X86)) {
				t.Errorf("13.1: Text(X86): fence %d, %d: it is allowed", pred, succ)
			}
		}
	}
	if !comesTo(t, on(api.ARM, code{one(x), isb(), load(0, y)}, code{one(y), isb(), load(0, x)}), askedSB, model.Text(api.X86)) {
		t.Error("13.1: Text(X86): an OpIsb: it is not allowed")
	}
	// What a thread reads of its own goes ahead of what others see: rfx is not rf.
	own := on(api.X86, code{one(x), load(0, x), load(1, y)}, code{one(y), load(0, y), load(1, x)})
	asked := "0:0=1 0:1=0 1:0=1 1:1=0"
	if !comesTo(t, own, asked) || comesTo(t, own, asked, without(t, docX86, `rf \ po`, "rf")) {
		t.Error("13.1: own stores, read ahead: rfx")
	}
}

// fencesBetween are codes like these, each with each fence of which fits says so.
func fencesBetween(with func(f api.Ins) []code, fits func(pred, succ int) bool) [][]code {
	var out [][]code
	for pred := 1; pred <= 3; pred++ {
		for succ := 1; succ <= 3; succ++ {
			if fits(pred, succ) {
				out = append(out, with(fence(pred, succ)))
			}
		}
	}
	return out
}

// The four kinds of order that a fence keeps: each by all fences that do, and,
// beside them, by all that do not. On RISC-V all can be written, on Arm three.
func TestFences(t *testing.T) {
	const r, w = api.FenceR, api.FenceW
	n := map[int]int{}
	for _, k := range []struct {
		piece, instead string
		pred, succ     int
		asked          string
		with           func(f api.Ins) []code
	}{
		{"[R] ; po ; [PR & SR] ; po ; [R] | ", "", r, r, "1:0=1 1:1=0", func(f api.Ins) []code {
			return threads(code{one(x), fence(w, w), one(y)}, code{load(0, y), f, load(1, x)})
		}},
		{" | [R] ; po ; [PR & SW] ; po ; [W]", "", r, w, "0:0=1 1:0=1", func(f api.Ins) []code {
			return threads(code{load(0, x), f, one(y)}, code{load(0, y), xor(2, 0), by(2, one(x))})
		}},
		{" | [W] ; po ; [PW & SR] ; po ; [R]", "", w, r, "0:0=0 1:0=0", func(f api.Ins) []code {
			return threads(code{one(x), f, load(0, y)}, code{one(y), f, load(0, x)})
		}},
		{" | [W] ; po ; [PW & SW] ; po ; [W]", "", w, w, "1:0=1 1:1=0", func(f api.Ins) []code {
			return threads(code{one(x), f, one(y)}, code{load(0, y), fence(r, r|w), load(1, x)})
		}},
		{" | [W] ; po ; [PW & SW] ; po ; [W]", "", w, w, "x=1 y=1", func(f api.Ins) []code {
			return threads(code{one(x), f, two(y)}, code{one(y), f, two(x)})
		}},
	} {
		keeps := func(pred, succ int) bool { return pred&k.pred != 0 && succ&k.succ != 0 }
		beside := fencesBetween(k.with, func(pred, succ int) bool { return !keeps(pred, succ) })
		beside = append(beside, k.with(konst(5, 0)))
		for _, codes := range fencesBetween(k.with, keeps) {
			for _, arch := range loose {
				n[arch] += alone(t, arch, line{k.piece, k.instead, codes, k.asked, beside})
			}
		}
	}
	if n[api.RISCV] != 5*4 || n[api.ARM] != 2+2+1+2+2 {
		t.Errorf("%v tests of fences were right", n)
	}
}

// What is asked for of message passing, load buffering, store buffering.
const (
	askedMP = "1:0=1 1:1=0"
	askedLB = "0:0=1 1:0=1"
	askedSB = "0:0=0 1:0=0"
)

// reader is message passing with what thread 1 does.
func reader(c ...api.Ins) []code { return threads(code{one(x), full, one(y)}, c) }

// writer is message passing with what thread 0 does.
func writer(c ...api.Ins) []code { return threads(c, code{load(0, y), full, load(1, x)}) }

// asker is load buffering with what thread 0 does.
func asker(c ...api.Ins) []code { return threads(c, code{load(0, y), full, one(x)}) }

// buffer is store buffering with what thread 0 does.
func buffer(c ...api.Ins) []code { return threads(c, code{one(y), full, load(0, x)}) }

// aloneOnBoth is alone on RISC-V and Arm: so many lines each.
func aloneOnBoth(t *testing.T, onRISCV, onARM int, lines ...line) {
	t.Helper()
	if a, b := alone(t, api.RISCV, lines...), alone(t, api.ARM, lines...); a != onRISCV || b != onARM {
		t.Errorf("of %d lines %d were held on RISC-V, %d on Arm", len(lines), a, b)
	}
}

func TestAcquireAndRelease(t *testing.T) {
	aloneOnBoth(t, 5, 12,
		line{"A | ", "", reader(acq(load(0, y)), load(1, x)), askedMP, [][]code{reader(load(0, y), load(1, x)), reader(load(0, y), acq(load(1, x))), reader(acq(load(2, z)), load(0, y), load(1, x))}},
		line{"A | ", "", reader(acq(swap(0, 5, y)), load(1, x)), askedMP, [][]code{reader(swap(0, 5, y), load(1, x)), reader(release(swap(0, 5, y)), load(1, x)), reader(load(0, y), acq(swap(1, 5, x)))}},
		line{"A | ", "", asker(acq(load(0, x)), one(y)), askedLB, [][]code{asker(load(0, x), one(y))}},
		line{"A | ", "", asker(acq(add(0, 5, x)), one(y)), askedLB, [][]code{asker(add(0, 5, x), one(y)), asker(release(add(0, 5, x)), one(y))}},
		line{" | Q", "", reader(weak(load(0, y)), load(1, x)), askedMP, [][]code{reader(load(0, y), load(1, x)), reader(load(0, y), weak(load(1, x)))}},
		line{" | Q", "", asker(weak(load(0, x)), one(y)), askedLB, [][]code{asker(load(0, x), one(y)), asker(weak(load(2, z)), load(0, x), one(y))}},
		line{" | mem ; [L]", "", writer(one(x), release(one(y))), askedMP, [][]code{writer(one(x), one(y)), writer(release(one(x)), one(y))}},
		line{" | mem ; [L]", "", writer(one(x), release(swap(2, 7, y))), askedMP, [][]code{writer(one(x), swap(2, 7, y)), writer(one(x), acq(swap(2, 7, y)))}},
		line{" | mem ; [L]", "", asker(load(0, x), release(one(y))), askedLB, [][]code{asker(release(one(y)), load(0, x)), asker(load(0, x), one(y), release(one(z)))}},
		line{" | mem ; [L]", "", asker(load(0, x), release(swap(2, 7, y))), askedLB, [][]code{asker(load(0, x), swap(2, 7, y)), asker(load(0, x), acq(swap(2, 7, y)))}},
		line{" | [L] ; po ; [A]", "", threads(code{release(one(x)), acq(load(0, y))}, code{release(one(y)), acq(load(0, x))}), askedSB, [][]code{
			threads(code{release(one(x)), weak(load(0, y))}, code{release(one(y)), weak(load(0, x))}), threads(code{one(x), acq(load(0, y))}, code{release(one(y)), acq(load(0, x))}),
			threads(code{release(one(x)), load(0, y)}, code{release(one(y)), acq(load(0, x))}), threads(code{acq(load(0, y)), release(one(x))}, code{acq(load(0, x)), one(y)}),
		}},
		line{" | [L] ; po ; [A]", "", buffer(release(swap(2, 7, x)), acq(swap(0, 5, y))), askedSB, [][]code{
			buffer(swap(2, 7, x), acq(swap(0, 5, y))), buffer(release(swap(2, 7, x)), swap(0, 5, y)), buffer(release(swap(2, 7, x)), load(0, y)), buffer(one(x), acq(swap(0, 5, y))),
		}},
	)
}

func TestDependencies(t *testing.T) {
	// Thread 0 reads y, writes z, reads that, reads x, where that was read.
	through := func(c ...api.Ins) []code {
		return threads(append(code{load(0, y)}, append(c, load(2, z), xor(3, 2), by(3, load(4, x)))...), code{one(x), full, one(y)})
	}
	const askedThrough = "0:0=1 0:2=1 0:4=0"
	aloneOnBoth(t, 17, 17,
		line{"= addr |", "=", reader(load(0, y), xor(2, 0), by(2, load(1, x))), askedMP, [][]code{
			reader(load(0, y), konst(2, 0), by(2, load(1, x))), reader(load(0, y), xor(2, 0), konst(2, 0), by(2, load(1, x))), reader(load(0, y), xor(2, 0), load(1, x)), reader(load(0, y), move(3, 0), by(5, load(1, x))),
		}},
		line{"= addr |", "=", reader(load(0, y), move(2, 0), aluImm(api.FnAnd, 3, 2, 0), alu(api.FnAdd, 3, 3, 5), by(3, load(1, x))), askedMP, [][]code{reader(load(0, y), move(2, 0), aluImm(api.FnAnd, 3, 5, 0), by(3, load(1, x)))}},
		line{"= addr |", "=", reader(load(0, y), by(0, load(1, x))), askedMP, [][]code{reader(load(0, y), by(7, load(1, x)))}},
		line{"= addr |", "=", reader(swap(0, 5, y), xor(2, 0), by(2, swap(1, 5, x))), askedMP, [][]code{reader(swap(0, 5, y), konst(2, 0), by(2, swap(1, 5, x)))}},
		line{"= addr |", "=", asker(load(0, x), xor(2, 0), by(2, one(y))), askedLB, [][]code{asker(load(0, x), konst(2, 0), by(2, one(y)))}},
		line{"| data |", "|", asker(load(0, x), xor(2, 0), aluImm(api.FnAdd, 2, 2, 1), store(2, y)), askedLB, [][]code{asker(load(0, x), konst(2, 0), aluImm(api.FnAdd, 2, 2, 1), store(2, y)), asker(load(0, x), xor(2, 0), one(y))}},
		line{"| data |", "|", asker(load(0, x), xor(2, 0), aluImm(api.FnAdd, 2, 2, 1), swap(3, 2, y)), askedLB, [][]code{asker(load(0, x), konst(2, 1), swap(3, 2, y))}},
		line{"| data |", "|", asker(load(0, x), store(0, y)), askedLB, nil},
		line{"| ctrl ; [W]", "", asker(load(0, x), ifZero(0, 3), one(y)), askedLB, [][]code{asker(load(0, x), one(y), ifZero(0, 3)), asker(load(0, x), ifZero(7, 3), one(y)), asker(ifZero(7, 3), load(0, x), one(y))}},
		line{"| ctrl ; [W]", "", asker(load(0, x), ifZero(0, 2), one(y)), askedLB, nil},
		line{"| ctrl ; [W]", "", asker(load(0, x), xor(1, 0), unless(1, 4), swap(2, 7, y)), askedLB, [][]code{asker(load(0, x), xor(1, 0), unless(5, 4), swap(2, 7, y))}},
		line{"| ctrl ; [W]", "", asker(load(0, x), ifZero(0, 2), load(2, z), one(y)), askedLB, [][]code{asker(load(0, x), load(2, z), one(y))}},
		line{"(addr | data) ; rfi", "data ; rfi", through(xor(1, 0), by(1, one(z))), askedThrough, [][]code{through(konst(1, 0), by(1, one(z)))}},
		line{"(addr | data) ; rfi", "addr ; rfi", through(xor(1, 0), aluImm(api.FnAdd, 1, 1, 1), store(1, z)), askedThrough, [][]code{through(konst(1, 1), store(1, z)), through(ifZero(0, 2), one(z))}},
		line{"(addr | data) ; rfi", "addr ; rfi", through(store(0, z)), askedThrough, nil},
		line{" | addr ; po ; [W]", "", asker(load(0, x), xor(1, 0), by(1, load(2, z)), one(y)), askedLB, [][]code{
			asker(load(0, x), konst(1, 0), by(1, load(2, z)), one(y)), asker(load(0, x), xor(1, 0), store(1, z), one(y)), asker(load(0, x), one(y), xor(1, 0), by(1, load(2, z))),
		}},
		line{" | addr ; po ; [W]", "", asker(load(0, x), xor(1, 0), by(1, one(z)), swap(2, 7, y)), askedLB, [][]code{asker(load(0, x), konst(1, 0), by(1, one(z)), swap(2, 7, y))}},
	)
	// Not of a load behind: neither a branch nor an address keeps it.
	for _, arch := range loose {
		for what, codes := range map[string][]code{
			"a branch": reader(load(0, y), ifZero(0, 3), load(1, x)), "an address between": reader(load(0, y), xor(2, 0), by(2, load(3, z)), load(1, x)),
			"a datum between": reader(load(0, y), store(0, z), load(1, x)),
		} {
			test := on(arch, codes...)
			right(t, what, test)
			if !comesTo(t, test, askedMP) {
				t.Errorf("13.1: on %d %s, and a load behind: it is not allowed", arch, what)
			}
		}
	}
}

func TestIsb(t *testing.T) {
	aloneOnBoth(t, 0, 5,
		line{"(ctrl | addr ; po)", "(addr ; po)", reader(load(0, y), ifZero(0, 2), isb(), load(1, x)), askedMP, [][]code{
			reader(load(0, y), ifZero(0, 2), load(1, x)), reader(load(0, y), isb(), load(1, x)), reader(load(0, y), isb(), ifZero(0, 3), load(1, x)), reader(load(0, y), ifZero(7, 2), isb(), load(1, x)),
		}},
		line{"(ctrl | addr ; po)", "(addr ; po)", reader(load(0, y), ifZero(0, 4), isb(), load(1, x)), askedMP, [][]code{reader(load(0, y), unless(0, 3), isb(), load(1, x))}},
		line{"(ctrl | addr ; po)", "ctrl", reader(load(0, y), xor(2, 0), by(2, load(3, z)), isb(), load(1, x)), askedMP, [][]code{
			reader(load(0, y), xor(2, 0), by(2, load(3, z)), load(1, x)), reader(load(0, y), konst(2, 0), by(2, load(3, z)), isb(), load(1, x)), reader(load(0, y), store(0, z), isb(), load(1, x)),
			reader(load(0, y), isb(), xor(2, 0), by(2, load(3, z)), load(1, x)),
		}},
		line{"(ctrl | addr ; po)", "ctrl", reader(load(0, y), xor(2, 0), by(2, one(z)), isb(), load(1, x)), askedMP, nil},
		line{" | isb", "", reader(load(0, y), ifZero(0, 2), isb(), isb(), load(1, x)), askedMP, [][]code{reader(load(0, y), isb(), isb(), load(1, x))}},
	)
}

// What threads see of each other: what is read from others, the order of
// writes, what is read ahead of a write; and two reads of one byte.
func TestWhatThreadsSee(t *testing.T) {
	aloneOnBoth(t, 7, 7,
		line{" | corr", "", threads(code{one(x)}, code{load(0, x), load(1, x)}), askedMP, [][]code{threads(code{one(x), one(y)}, code{load(0, y), load(1, x)}), threads(code{one(x)}, code{load(1, x), load(0, x)})}},
		line{" | corr", "", threads(code{one(x)}, code{load(0, x), part(0, 1, load(1, x))}), askedMP, [][]code{threads(code{part(0, 4, one(x)), part(4, 4, one(x))}, code{part(4, 4, load(0, x)), part(0, 4, load(1, x))})}},
		line{" | rfx", "", reader(load(0, y), full, load(1, x)), askedMP, [][]code{reader(load(0, y), load(1, x))}},
		line{" | rfx", "", threads(code{load(0, x), full, one(y)}, code{load(0, y), full, one(x)}), askedLB, nil},
		line{" | co |", " |", threads(code{one(x), full, two(y)}, code{one(y), full, two(x)}), "x=1 y=1", [][]code{threads(code{one(x), full, two(y)}, code{one(y), two(x)})}},
		line{" | fr as", " as", buffer(one(x), full, load(0, y)), askedSB, [][]code{buffer(one(x), load(0, y))}},
		line{" | fr as", " as", reader(load(0, y), full, load(1, x)), askedMP, nil},
	)
	// What a thread reads of its own goes ahead of what others see: rfx is not rf.
	for _, arch := range loose {
		own := on(arch, code{one(x), load(0, x), xor(1, 0), by(1, load(2, y))}, code{one(y), full, load(0, x)})
		right(t, "own stores, read ahead", own)
		asked := "0:0=1 0:2=0 1:0=0"
		if !comesTo(t, own, asked) || comesTo(t, own, asked, without(t, docWeak, `rf \ po`, "rf")) {
			t.Errorf("13.1: on %d own stores, read ahead: rfx", arch)
		}
	}
}

// Some pieces forbid nothing of a Run that no other one does: by 11.1 (b) no
// read takes what lies ahead of an own write, so local holds of all Runs; by (d)
// what same says of writes co and fr say; and from an OpRmw to what is read of
// it corr goes. These lines are held by bindings that are of no Run.
func TestLinesThatFollow(t *testing.T) {
	two := [2]int{0, 1}
	both := api.Set(3)
	for _, l := range []struct {
		archs  []int
		check  string
		sets   map[string]api.Set
		pairs  map[string][][2]int
		beside string // without this one it holds
	}{
		{every, "local", map[string]api.Set{"M": both, "W": 1, "R": 2}, map[string][][2]int{"po": {two}, "fr": {{1, 0}}}, "po"},
		{loose, "order", map[string]api.Set{"M": both, "W": both}, map[string][][2]int{"po": {two}, "ov": {two}, "co": {{1, 0}}}, "ov"},
		{loose, "order", map[string]api.Set{"M": both, "W": both}, map[string][][2]int{"po": {two}, "ov": {two}, "co": {{1, 0}}}, "W"},
		{loose, "order", map[string]api.Set{"M": both, "W": both}, map[string][][2]int{"po": {two}, "ov": {two}, "co": {{1, 0}}}, "M"},
		{loose, "order", map[string]api.Set{"X": 1}, map[string][][2]int{"po": {two}, "rf": {two}, "co": {{1, 0}}}, "X"},
		{loose, "order", map[string]api.Set{"X": 1}, map[string][][2]int{"po": {two}, "rf": {two}, "co": {{1, 0}}}, "rf"},
	} {
		var all, fewer []api.Bound
		for _, d := range cand.Names() {
			b := api.Bound{Name: d.Name, Set: d.Set, S: l.sets[d.Name], R: rel.Pair(l.pairs[d.Name]...)}
			all = append(all, b)
			if d.Name != l.beside {
				fewer = append(fewer, b)
			}
		}
		for _, arch := range l.archs {
			m, e, at := cat.Parse(model.Text(arch), cand.Names()...)
			if e != api.OK {
				t.Fatalf("13.1: Text(%d): error %d at %d", arch, e, at)
			}
			if holds, check := m.Holds(both, all...); holds || check != l.check {
				t.Errorf("13.1: Text(%d) of %v, %v: %v, %q, want %q", arch, l.sets, l.pairs, holds, check, l.check)
			}
			if holds, check := m.Holds(both, fewer...); !holds {
				t.Errorf("13.1: Text(%d) of %v, %v without %s: %q does not hold", arch, l.sets, l.pairs, l.beside, check)
			}
		}
	}
}
