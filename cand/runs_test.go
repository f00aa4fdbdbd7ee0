package cand_test

import (
	"fmt"
	"math"
	"slices"
	"testing"

	"belated/api"
	"belated/cand"
)

// The chapter's examples.
func TestExamples(t *testing.T) {
	runsAre(t, "x = 1 // r0 = x", with(code{put(0, 1)}, code{load(0, 0)}), "1=0; 0", "1=1; 0")
	runsAre(t, "x = 1; r0 = x", with(code{put(0, 1), load(0, 0)}), "1=1; 0")
	runsAre(t, "r0 = x; x = 1", with(code{load(0, 0), put(0, 1)}), "0=0; 1")
	runsAre(t, "x = 1; y = 1", with(code{put(0, 1), put(1, 1)}), "; 0 1", "; 1 0")
}

// each is all pairs of a first and a second text, with something between.
func each(first []string, between string, second []string) []string {
	var out []string
	for _, a := range first {
		for _, b := range second {
			out = append(out, a+between+b)
		}
	}
	return out
}

// 11.1

func TestRunsOfPlainTests(t *testing.T) {
	turns := func(a, b int) []string { return []string{fmt.Sprint(a, b), fmt.Sprint(b, a)} }
	for _, x := range []struct {
		what string
		test api.Test
		want []string
	}{
		{"a thread that does nothing", with(nil), []string{"; "}},
		{"three threads that do nothing", with(nil, code{}, nil), []string{"; "}},
		{"no memory operation", with(code{konst(0, 1), move(1, 0), fence(1, 2), xor(0, 1), isb(), ifZero(0, 7), konst(2, 3)}, code{fence(3, 3)}), []string{"; "}},
		{"a load", with(code{load(0, 0)}), []string{"0=0; "}},
		{"a store", with(code{put(0, 1)}), []string{"; 0"}},
		{"a swap", with(code{swap(0, 7, 0)}), []string{"0=0; 0"}},
		{"threads of which one does nothing", with(code{put(0, 1)}, nil, code{load(0, 0)}), []string{"1=0; 0", "1=1; 0"}},
		{"two loads: two rows, one Run", with(code{load(0, 0), load(1, 1)}), []string{"0=0 1=0; "}},
		{"store buffering", with(code{put(0, 1), load(0, 1)}, code{put(1, 1), load(0, 0)}), each([]string{"1=0 3=0", "1=0 3=1", "1=1 3=0", "1=1 3=1"}, "; ", turns(0, 2))},
		{"message passing", with(code{put(0, 1), put(1, 1)}, code{load(0, 1), load(1, 0)}), each([]string{"2=0 3=0", "2=0 3=1", "2=1 3=0", "2=1 3=1"}, "; ", turns(0, 1))},
		{"load buffering", with(code{load(0, 0), put(1, 1)}, code{load(0, 1), put(0, 1)}), each([]string{"0=0 2=0", "0=0 2=1", "0=1 2=0", "0=1 2=1"}, "; ", turns(1, 3))},
		{"two writes, two reads of one location", with(code{put(0, 1)}, code{put(0, 2)}, code{load(0, 0), load(1, 0)}),
			each(each([]string{"2=0", "2=1", "2=2"}, " ", []string{"3=0", "3=1", "3=2"}), "; ", turns(0, 1))},
		{"a fence and an OpIsb turn nothing", with(code{load(0, 0), fence(3, 3), isb(), put(1, 1)}, code{load(0, 1), fence(3, 3), put(0, 1)}), each([]string{"0=0 4=0", "0=0 4=1", "0=1 4=0", "0=1 4=1"}, "; ", turns(3, 6))},
		{"nor do Acq, Weak, Rel", with(code{acq(load(0, 0)), release(put(1, 1))}, code{weak(load(0, 1)), release(put(0, 1))}), each([]string{"0=0 2=0", "0=0 2=1", "0=1 2=0", "0=1 2=1"}, "; ", turns(1, 3))},
		{"of two that read Init, and write", with(code{load(0, 0), store(7, 0)}, code{load(0, 0), store(6, 0)}), []string{"0=0 2=0; 1 3", "0=0 2=0; 3 1", "0=0 2=7; 1 3", "0=6 2=0; 3 1"}},
	} {
		runsAre(t, x.what, x.test, x.want...)
	}
}

func TestRunsOfWhatIsReadOfTheOwnThread(t *testing.T) {
	for _, x := range []struct {
		what string
		test api.Test
		want []string
	}{
		{"the last of two stores", with(code{put(0, 1), put(0, 2), load(0, 0)}), []string{"2=2; 0 1"}},
		{"not one behind it", with(code{put(0, 1), load(0, 0), put(0, 2)}), []string{"1=1; 0 2"}},
		{"not one of another location", with(code{put(1, 1), load(0, 0)}), []string{"1=0; 0"}},
		// Six rows: the store may stand behind the load that takes it, and another one between them.
		{"or of another thread, if that stands last", with(code{put(0, 1), load(0, 0)}, code{put(0, 2)}), []string{"1=1; 0 2", "1=2; 0 2", "1=1; 2 0"}},
		{"each load by itself", with(code{put(0, 1), load(0, 0), load(1, 0)}, code{put(0, 2)}), []string{"1=1 2=1; 0 3", "1=1 2=2; 0 3", "1=2 2=1; 0 3", "1=2 2=2; 0 3", "1=1 2=1; 3 0"}},
		{"what hangs on a read", with(code{load(0, 0), store(0, 1), load(1, 1)}, code{put(0, 5)}), []string{"0=0 2=0; 1 3", "0=0 2=0; 3 1", "0=5 2=5; 3 1"}},
	} {
		runsAre(t, x.what, x.test, x.want...)
	}
}

func TestRunsOfReadModifyWrites(t *testing.T) {
	for _, x := range []struct {
		what string
		test api.Test
		want []string
	}{
		{"two sums", with(code{add(0, 7, 0)}, code{add(0, 6, 0)}), []string{"0=0 1=7; 0 1", "0=6 1=0; 1 0"}},
		{"a sum and a swap", with(code{add(0, 7, 0)}, code{swap(0, 6, 0)}), []string{"0=0 1=7; 0 1", "0=6 1=0; 1 0"}},
		{"two of one thread", with(code{add(0, 7, 0), add(1, 7, 0)}), []string{"0=0 1=7; 0 1"}},
		{"of two locations", with(code{add(0, 7, 0), add(1, 7, 1)}), []string{"0=0 1=0; 0 1", "0=0 1=0; 1 0"}},
		{"its datum is its Dst", with(code{add(7, 7, 0), add(7, 7, 0)}), []string{"0=0 1=7; 0 1"}},
		{"behind its own thread's store", with(code{put(0, 5), swap(0, 7, 0)}), []string{"1=5; 0 1"}},
		{"and beside another one", with(code{put(0, 5), swap(0, 7, 0)}, code{put(0, 9)}), []string{"1=5; 2 0 1", "1=9; 0 2 1", "1=5; 0 1 2"}},
		{"as a source", with(code{swap(0, 7, 0)}, code{load(0, 0)}), []string{"0=0 1=0; 0", "0=0 1=7; 0"}},
		// No load takes from an OpRmw that stands behind it.
		{"as a source of its own thread", with(code{swap(0, 7, 0), load(1, 0)}, code{put(0, 9)}), []string{"0=0 1=7; 0 2", "0=0 1=9; 0 2", "0=9 1=7; 2 0"}},
		{"ahead of its own thread's store", with(code{add(0, 7, 0), put(0, 1)}), []string{"0=0; 0 1"}},
		{"behind its own thread's load", with(code{load(0, 0), add(1, 7, 0)}), []string{"0=0 1=0; 1"}},
	} {
		runsAre(t, x.what, x.test, x.want...)
	}
}

func TestRunsOfBytes(t *testing.T) {
	third := with(code{part(0, 1, put(0, 0xA0))}, code{part(0, 2, put(0, 0xB1B0))}, code{part(0, 4, load(0, 0))})
	third.Init[0] = 0x77665544
	for _, x := range []struct {
		what string
		test api.Test
		want []string
	}{
		{"stores side by side", with(code{part(0, 4, put(0, 1)), part(4, 4, put(0, 2))}), []string{"; 0 1", "; 1 0"}},
		{"one within another", with(code{part(0, 4, put(0, 1)), part(2, 2, put(0, 2))}), []string{"; 0 1"}},
		{"around it", with(code{part(7, 1, put(0, 1)), put(0, 2)}), []string{"; 0 1"}},
		{"the same bytes of two locations", with(code{part(0, 4, put(0, 1)), part(0, 4, put(1, 2))}), []string{"; 0 1", "; 1 0"}},
		{"a load side by side", with(code{part(0, 4, put(0, 1)), part(4, 4, load(0, 0))}), []string{"1=0; 0"}},
		{"a load within", with(code{put(0, 0x0807060504030201), part(5, 1, load(0, 0)), part(2, 2, load(1, 0)), part(4, 4, load(2, 0))}), []string{fmt.Sprintf("1=%d 2=%d 3=%d; 0", 6, 0x0403, 0x08070605)}},
		{"the low bytes are written", with(code{part(1, 1, put(0, 0x1FF)), load(0, 0)}), []string{"1=65280; 0"}},
		{"two writes and Init", third, []string{
			fmt.Sprintf("2=%d; 0 1", 0x77665544), fmt.Sprintf("2=%d; 0 1", 0x776655A0), fmt.Sprintf("2=%d; 0 1", 0x7766B1B0),
			fmt.Sprintf("2=%d; 1 0", 0x77665544), fmt.Sprintf("2=%d; 1 0", 0x7766B1B0), fmt.Sprintf("2=%d; 1 0", 0x7766B1A0)}},
		{"a sum of one byte wraps within it", with(code{part(3, 1, put(0, 255)), part(3, 1, add(0, 7, 0)), part(2, 2, load(1, 0))}), []string{fmt.Sprintf("1=255 2=%d; 0 1", 6<<8)}},
		{"a swap within what was stored", with(code{put(0, -1), part(6, 2, swap(0, 7, 0)), load(1, 0)}), []string{fmt.Sprintf("1=65535 2=%d; 0 1", 7<<48|(1<<48-1))}},
		// What is wider than the own store comes of that and of another one's.
		{"more than was stored", with(code{part(0, 1, put(0, 7)), part(0, 2, load(0, 0))}, code{part(1, 1, put(0, 9))}), []string{"1=7; 0 2", "1=7; 2 0", "1=2311; 0 2", "1=2311; 2 0"}},
	} {
		runsAre(t, x.what, x.test, x.want...)
	}
}

func TestRunsByAnIndex(t *testing.T) {
	end := func(x api.Test) []string {
		var out []string
		for _, r := range cand.Runs(x) {
			out = append(out, fmt.Sprintf("%s: %x", brief(r), r.Outcome.Mem[1]))
		}
		slices.Sort(out)
		return out
	}
	for _, x := range []struct {
		what string
		test api.Test
		want []string
	}{
		{"a store", with(code{load(1, 0), by(1, part(0, 1, put(1, 5)))}, code{put(0, 3)}), []string{"0=0; 1 2: 5", "0=0; 2 1: 5", "0=3; 2 1: 5000000"}},
		{"by a chain", with(code{load(1, 0), move(2, 1), aluImm(api.FnAdd, 3, 2, -1), by(3, part(0, 2, put(1, 5)))}, code{put(0, 5)}), []string{"0=0; 1 2: 5000000000000", "0=0; 2 1: 5000000000000", "0=5; 2 1: 500000000"}},
		{"of register 7, below 0, round the end", with(code{konst(7, -3), by(7, part(2, 1, put(1, 5)))}), []string{"; 0: 500000000000000"}},
		// The store's bytes meet the load's only if the index is 3; a load ahead of what the index hangs on took nothing of it.
		{"a load of what it stores, or not", with(code{load(1, 0), by(1, part(0, 1, put(1, 5))), part(3, 1, load(2, 1))}, code{put(0, 3)}), []string{"0=0 2=0; 1 3: 5", "0=0 2=0; 3 1: 5", "0=3 2=5; 3 1: 5000000"}},
		{"a load by it", with(code{part(2, 2, put(1, 0x0908)), load(1, 0), by(1, part(0, 1, load(2, 1)))}, code{put(0, 2)}), []string{"1=0 2=0; 0 3: 9080000", "1=0 2=0; 3 0: 9080000", "1=2 2=8; 0 3: 9080000", "1=2 2=8; 3 0: 9080000"}},
		{"a swap by it", with(code{load(1, 0), by(1, part(0, 1, swap(2, 7, 1)))}, code{put(0, 1)}), []string{"0=0 1=0; 1 2: 7", "0=0 1=0; 2 1: 7", "0=1 1=0; 2 1: 700"}},
	} {
		right(t, x.test)
		if got := end(x.test); !slices.Equal(got, x.want) {
			t.Errorf("11.1: %s:\n got %q\nwant %q", x.what, got, x.want)
		}
	}
}

// What a store turns out to touch counts, though its address was not known
// when the load was done: the second thread's sum gives the index, and comes
// of what was loaded.
func TestRunsOfAStoreWhoseAddressComesLate(t *testing.T) {
	five, six := by(1, part(0, 1, put(1, 5))), part(0, 1, put(1, 6))
	x := with(code{part(0, 1, load(1, 0)), five, six, part(0, 1, load(2, 1)), part(7, 1, store(2, 0))}, code{add(0, 6, 0)})
	late := fmt.Sprintf("3=6 5=%d; 4 5 1 2", 6<<56)
	for _, y := range []struct {
		what   string
		first  api.Ins
		second api.Ins
		sum    int
		told   bool
	}{
		{"another one, behind it, is taken", five, six, 8, true},
		{"it is no source", five, six, 9, true},
		{"nor, behind another one, if it lies elsewhere", six, five, 9, true},
		{"it is the source (c)", six, five, 8, false},
	} {
		x.Code[0][1], x.Code[0][2], x.Regs[1][6] = y.first, y.second, y.sum
		right(t, x)
		if got := briefs(cand.Runs(x)); slices.Contains(got, fmt.Sprintf("0=%d ", y.sum)+late) != y.told {
			t.Errorf("11.1: %s: %q", y.what, got)
		}
	}
}

func TestRunsOfBranches(t *testing.T) {
	three := with(code{load(0, 0), ifZero(0, 3), put(1, 1), unless(0, 5), put(1, 2), ifZero(0, 7), put(2, 1)}, code{put(0, 1)})
	for _, x := range []struct {
		what string
		test api.Test
		path [3]int // of those that read 0
		then [3]int // of the others
		want []string
	}{
		{"one", with(code{load(0, 0), ifZero(0, 3), put(1, 1)}, code{put(0, 1)}), [3]int{1}, [3]int{0}, []string{"0=0; 1", "0=1; 1 2", "0=1; 2 1"}},
		{"unless", with(code{load(0, 0), unless(0, 3), put(1, 1)}, code{put(0, 1)}), [3]int{0}, [3]int{1}, []string{"0=0; 1 2", "0=0; 2 1", "0=1; 1"}},
		{"MaxBranches of one thread", three, [3]int{5}, [3]int{2}, []string{"0=0; 1 2", "0=0; 2 1", "0=1; 1 2 3", "0=1; 1 3 2", "0=1; 2 1 3", "0=1; 2 3 1", "0=1; 3 1 2", "0=1; 3 2 1"}},
		{"to the next index", with(code{load(0, 0), ifZero(0, 2), put(1, 1)}, code{put(0, 1)}), [3]int{}, [3]int{}, []string{"0=0; 1 2", "0=0; 2 1", "0=1; 1 2", "0=1; 2 1"}},
		{"to the code's end, the next index", with(code{load(0, 0), ifZero(0, 2)}, code{put(0, 1)}), [3]int{}, [3]int{}, []string{"0=0; 1", "0=1; 1"}},
		{"by a chain", with(code{load(0, 0), move(1, 0), aluImm(api.FnSub, 2, 1, 1), unless(2, 5), put(1, 1)}, code{put(0, 1)}), [3]int{1}, [3]int{0}, []string{"0=0; 1", "0=1; 1 2", "0=1; 2 1"}},
		{"by the last register, of the first thread alone", with(code{load(7, 0), ifZero(7, 3), put(1, 1)}, code{ifZero(7, 2), put(0, 1)}), [3]int{1}, [3]int{}, []string{"0=0; 1", "0=1; 1 2", "0=1; 2 1"}},
	} {
		runs := runsAre(t, x.what, x.test, x.want...)
		for _, r := range runs {
			if r.Events[0].Old == 0 && r.Paths != x.path || r.Events[0].Old != 0 && r.Paths != x.then {
				t.Errorf("11.2: %s: Paths %v of %q", x.what, r.Paths, brief(r))
			}
		}
	}
	for _, x := range []struct {
		what string
		code code
		path int
		want string
	}{
		{"a constant that is 0", code{konst(0, 0), ifZero(0, 3), put(0, 1), put(1, 1)}, 1, "; 0"},
		{"one that is not", code{konst(0, 4), ifZero(0, 3), put(0, 1)}, 0, "; 0"},
		{"a register as it was at first", code{unless(7, 2), put(0, 1)}, 1, "; "},
		{"below 0", code{konst(0, math.MinInt), ifZero(0, 3), put(0, 1)}, 0, "; 0"},
		{"all of MaxCode passed over", code{ifZero(0, 8), put(0, 1), put(0, 2), put(0, 3), load(0, 0), fence(3, 3), isb(), swap(0, 7, 0)}, 1, "; "},
	} {
		if runs := runsAre(t, x.what, with(x.code), x.want); len(runs) == 1 && runs[0].Paths != [3]int{x.path} {
			t.Errorf("11.2: %s: Paths %v", x.what, runs[0].Paths)
		}
	}
	// A branch of each thread.
	b := code{load(0, 0), ifZero(0, 3), put(0, 1)}
	for _, r := range runsAre(t, "MaxBranches of three threads", with(b, b, b), "0=0 1=0 2=0; ") {
		if r.Paths != [3]int{1, 1, 1} {
			t.Errorf("11.2: Paths %v", r.Paths)
		}
	}
}

func TestRunsOfMaxOps(t *testing.T) {
	var apart, same code
	for n := range api.MaxOps {
		apart = append(apart, part(n, 1, put(2, n+1)))
		same = append(same, put(0, n))
	}
	runs := cand.Runs(with(apart))
	seen := map[string]int{}
	for _, r := range runs {
		seen[brief(r)]++
		if r.Outcome.Mem[2] != 0x060504030201 {
			t.Errorf("11.1: z is %x", r.Outcome.Mem[2])
		}
	}
	if len(runs) != 720 || len(seen) != 720 {
		t.Errorf("11.1: %d Runs of six stores, %d orders", len(runs), len(seen))
	}
	runsAre(t, "six stores of one location", with(same), "; 0 1 2 3 4 5")
	runsAre(t, "six loads", with(slices.Repeat(code{load(0, 0)}, 6)), "0=0 1=0 2=0 3=0 4=0 5=0; ")
	runsAre(t, "six sums", with(slices.Repeat(code{add(0, 7, 0)}, 6)), "0=0 1=7 2=14 3=21 4=28 5=35; 0 1 2 3 4 5")
	two := slices.Repeat(code{add(0, 7, 0)}, 2)
	runs = cand.Runs(with(two, two, two))
	if len(runs) != 90 {
		t.Errorf("11.1: %d Runs of two sums in each of three threads", len(runs))
	}
	for _, r := range runs {
		for at, n := range r.Order {
			if r.Events[n].Old != 7*at || r.Outcome.Mem[0] != 42 {
				t.Errorf("11.1: sums: %q", brief(r))
			}
		}
	}
	if n := len(cand.Runs(with(code{put(0, 1)}, code{put(1, 1)}, code{load(0, 0), load(1, 1), load(2, 0), load(3, 1)}))); n != 32 {
		t.Errorf("11.1: %d Runs of two stores and four loads", n)
	}
}

// 11.1: what locations and registers hold at the end.
func TestOutcomes(t *testing.T) {
	x := with(code{part(0, 1, put(2, 1)), konst(3, -5), load(4, 1)}, code{part(2, 2, store(7, 2)), move(5, 7)}, code{part(3, 1, put(2, 2)), load(7, 2)})
	x.Init = [3]int{-1, math.MinInt, 0x0807060504030201}
	x.Regs[2][1] = math.MaxInt
	right(t, x)
	seen := map[int]int{}
	for _, r := range cand.Runs(x) {
		o := r.Outcome
		mem := [3]int{-1, math.MinInt, 0x0807060502070201}
		if slices.Index(r.Order, 2) > slices.Index(r.Order, 3) {
			mem[2] = 0x0807060500070201
		}
		want := api.Outcome{Mem: mem, Regs: [3]file{{3: -5, 4: math.MinInt, 6: 6, 7: 7}, {5: 7, 6: 6, 7: 7}, {1: math.MaxInt, 6: 6, 7: r.Events[4].Old}}}
		if o != want {
			t.Errorf("11.1: %q ends with %x, want %x", brief(r), o, want)
		}
		seen[o.Regs[2][7]]++
	}
	// Byte 3 is the own store's or, of the order that has it last, the other one's; bytes 0 and 2 are stored or not.
	want := []int{0x0807060502030201, 0x0807060502070201, 0x0807060500070201}
	for _, v := range want {
		if seen[v] == 0 {
			t.Errorf("11.1: z is never read as %x: %x", v, seen)
		}
	}
	if len(seen) != len(want) {
		t.Errorf("11.1: z is read as %x", seen)
	}
	for _, r := range cand.Runs(with(code{load(0, 0)})) {
		if r.Outcome.Regs[1] != (file{}) || r.Outcome.Regs[2] != (file{}) || r.Paths != [3]int{} {
			t.Errorf("11.2: threads that there are not: %v, %v", r.Outcome.Regs, r.Paths)
		}
	}
}

// 11.2: all that is told of a Run.
func TestAllOfARun(t *testing.T) {
	x := with(
		code{acq(part(2, 2, load(0, 1))), konst(1, 3), ifZero(0, 5), put(0, 9), isb(), fence(api.FenceR, api.FenceW), release(by(1, part(4, 1, store(7, 2))))},
		nil,
		code{fence(3, 1), move(5, 7), release(acq(part(0, 4, add(3, 6, 2)))), isb(), weak(part(4, 4, load(4, 2)))},
	)
	x.Init = [3]int{1, 0x0807060504030201, -1}
	x.Regs[0][0] = 5
	// y is not 0, so that the branch goes on.
	r := theRun(t, x, "0=1027 6=4294967295 8=134217727; 4 6 1")
	want := api.Run{
		Events: []api.Event{
			{Pos: 0, At: 0, Op: api.OpLoad, Span: api.Span{Loc: 1, Mask: 0b1100}, Reads: true, Old: 0x0403, Acq: true},
			{Pos: 3, At: 3, Op: api.OpStore, Span: api.Span{Mask: 255}, Writes: true, New: 9},
			{Pos: 4, At: 4, Op: api.OpIsb},
			{Pos: 5, At: 5, Op: api.OpFence, Pred: api.FenceR, Succ: api.FenceW},
			{Pos: 6, At: 6, Op: api.OpStore, Span: api.Span{Loc: 2, Mask: 128}, Writes: true, New: 7, Rel: true},
			{Thread: 2, Op: api.OpFence, Pred: 3, Succ: 1},
			{Thread: 2, Pos: 2, At: 2, Op: api.OpRmw, Span: api.Span{Loc: 2, Mask: 15}, Reads: true, Writes: true, Old: 1<<32 - 1, New: 5, Acq: true, Rel: true},
			{Thread: 2, Pos: 3, At: 3, Op: api.OpIsb},
			{Thread: 2, Pos: 4, At: 4, Op: api.OpLoad, Span: api.Span{Loc: 2, Mask: 240}, Reads: true, Old: 0x07FFFFFF, Weak: true},
		},
		Order: []int{4, 6, 1},
		Sources: []api.Source{
			{Event: 0, Byte: 2, From: -1}, {Event: 0, Byte: 3, From: -1},
			{Event: 6, Byte: 0, From: -1}, {Event: 6, Byte: 1, From: -1}, {Event: 6, Byte: 2, From: -1}, {Event: 6, Byte: 3, From: -1},
			{Event: 8, Byte: 4, From: -1}, {Event: 8, Byte: 5, From: -1}, {Event: 8, Byte: 6, From: -1}, {Event: 8, Byte: 7, From: 4},
		},
		Outcome: api.Outcome{
			Regs: [3]file{{0: 0x0403, 1: 3, 6: 6, 7: 7}, {6: 6, 7: 7}, {3: 1<<32 - 1, 4: 0x07FFFFFF, 5: 7, 6: 6, 7: 7}},
			Mem:  [3]int{9, 0x0807060504030201, 0x07FFFFFF00000005},
		},
	}
	sameRun(t, r, want)
	// With y 0 the path is the other one: places and indices part there.
	x.Init[1] = 0
	r = theRun(t, x, "0=0 4=4294967295 6=4294967295; 4 2")
	want.Paths[0] = 1
	want.Events = slices.Delete(want.Events, 1, 3)
	want.Events[0].Old = 0
	want.Events[1].Pos, want.Events[2].Pos = 3, 4
	want.Events[6].Old = 1<<32 - 1
	want.Order = []int{4, 2}
	want.Sources[9].From = -1
	for n := range want.Sources {
		want.Sources[n].Event = []int{0, 0, 4, 4, 4, 4, 6, 6, 6, 6}[n]
	}
	want.Outcome.Mem[0], want.Outcome.Mem[1] = 1, 0
	want.Outcome.Regs[0][0], want.Outcome.Regs[2][4] = 0, 1<<32-1
	sameRun(t, r, want)
}

func sameRun(t *testing.T, got, want api.Run) {
	t.Helper()
	if got.Paths != want.Paths || !slices.Equal(got.Events, want.Events) || !slices.Equal(got.Order, want.Order) || !slices.Equal(got.Sources, want.Sources) || got.Outcome != want.Outcome {
		t.Errorf("11.2:\n got %s\nwant %s", whole(got), whole(want))
	}
}

// 11.2: byte by byte where it comes from: several writes, Init, the own thread.
func TestSources(t *testing.T) {
	x := with(code{part(0, 1, put(0, 1)), part(2, 2, put(0, 0x0303)), load(0, 0)}, code{part(3, 1, put(0, 4)), part(4, 4, put(0, 0x05050505))}, code{part(1, 1, add(0, 7, 0))})
	x.Init[0] = 0x0F0E0D0C0B0A0908
	r := theRun(t, x, fmt.Sprintf("2=%d 5=9; 5 1 3 0 4", 0x0505050504031001))
	var from []int
	for n, s := range r.Sources {
		if n < 8 && (s.Event != 2 || s.Byte != n) || n == 8 && s != (api.Source{Event: 5, Byte: 1, From: -1}) {
			t.Errorf("11.2: Sources %v", r.Sources)
		}
		from = append(from, s.From)
	}
	if !slices.Equal(from, []int{0, 5, 1, 3, 4, 4, 4, 4, -1}) {
		t.Errorf("11.2: Sources %v", r.Sources)
	}
	r = theRun(t, x, fmt.Sprintf("2=%d 5=9; 3 1 0 4 5", 0x0F0E0D0C03030901))
	from = nil
	for _, s := range r.Sources {
		from = append(from, s.From)
	}
	if !slices.Equal(from, []int{0, -1, 1, 1, -1, -1, -1, -1, -1}) {
		t.Errorf("11.2: Sources %v", r.Sources)
	}
}
