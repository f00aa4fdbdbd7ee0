package rel

import (
	"math"
	"slices"
	"testing"

	"belated/api"
)

// The tests hold the calls against a model of their own: a set is a row of 32
// bools, a relation a table of them, and what is said of steps is walked.

type row [32]bool

type table [32]row

// odd are numbers at the edges of what is an event.
var odd = []int{math.MinInt, math.MinInt + 31, -1 << 32, -33, -32, -31, -2, -1, 0, 1, 2, 5, 15, 16, 30, 31, 32, 33, 40, 63, 64, 65, 95, 96, 255, 256,
	1 << 31, 1 << 32, 1<<32 + 1, 1 << 62, math.MaxInt - 1, math.MaxInt}

const full = api.Set(0xFFFFFFFF)

var sets = []api.Set{0, 1, 2, 3, 7, 1 << 15, 1 << 16, 1 << 30, 1 << 31, 1<<31 | 1, 0x7FFFFFFF, 0xFFFFFFFE, full, 0x55555555, 0xAAAAAAAA, 0x0000FFFF, 0xFFFF0000, 0x80000021, 0x12345678}

func rowOf(s api.Set) (out row) {
	for e := range out {
		out[e] = uint32(s)&(uint32(1)<<uint(e)) != 0
	}
	return out
}

func setOf(r row) (out api.Set) {
	at := api.Set(1)
	for _, has := range r {
		if has {
			out += at
		}
		at += at
	}
	return out
}

func tableOf(r api.Rel) (out table) {
	for a := range out {
		out[a] = rowOf(r[a])
	}
	return out
}

func relOf(t table) (out api.Rel) {
	for a := range out {
		out[a] = setOf(t[a])
	}
	return out
}

// made is the relation of those pairs for which has holds.
func made(has func(a, b int) bool) api.Rel {
	var t table
	for a := range 32 {
		for b := range 32 {
			t[a][b] = has(a, b)
		}
	}
	return relOf(t)
}

// of is the relation of the pairs a, b, ..
func of(l ...int) api.Rel {
	var t table
	for i := 0; i < len(l); i += 2 {
		t[l[i]][l[i+1]] = true
	}
	return relOf(t)
}

var (
	none     = api.Rel{}
	every    = made(func(a, b int) bool { return true })
	selves   = made(func(a, b int) bool { return a == b })
	rising   = made(func(a, b int) bool { return a < b })
	falling  = made(func(a, b int) bool { return a > b })
	next     = made(func(a, b int) bool { return b == a+1 })
	previous = made(func(a, b int) bool { return b == a-1 })
	ring     = made(func(a, b int) bool { return b == (a+1)%32 })
	leaps    = made(func(a, b int) bool { return b == (a*13+7)%32 })
)

// scattered are relations of few and many pairs, the same ones at each run.
func scattered() []api.Rel {
	state := uint32(12345)
	draw := func() uint32 {
		state = state*1664525 + 1013904223
		return state >> 8
	}
	var out []api.Rel
	for _, of := range []uint32{4, 12, 20, 28, 40, 64, 200, 700} {
		for range 3 {
			out = append(out, made(func(a, b int) bool { return draw()%1024 < of }))
		}
	}
	return out
}

func relations() []api.Rel {
	out := []api.Rel{none, every, selves, rising, falling, next, previous, ring, leaps,
		of(0, 0), of(31, 31), of(0, 31), of(31, 0), of(0, 31, 31, 0), of(0, 1, 1, 2), of(0, 1, 1, 0), of(5, 4, 4, 3, 3, 0), of(1, 1, 1, 2, 2, 31),
		of(0, 1, 0, 2, 2, 1), of(7, 31, 31, 3, 3, 30, 30, 7)}
	return append(out, scattered()...)
}

func sameSet(t *testing.T, what string, got, want api.Set, args ...any) {
	t.Helper()
	if got != want {
		t.Errorf("%s%v = %032b, want %032b", what, args, got, want)
	}
}

func sameRel(t *testing.T, what string, got, want api.Rel, args ...any) {
	t.Helper()
	if got != want {
		t.Errorf("%s%v = %v, want %v", what, args, tablePairs(got), tablePairs(want))
	}
}

func sameBool(t *testing.T, what string, got, want bool, args ...any) {
	t.Helper()
	if got != want {
		t.Errorf("%s%v = %v, want %v", what, args, got, want)
	}
}

func tablePairs(r api.Rel) (out [][2]int) {
	for a, row := range tableOf(r) {
		for b, has := range row {
			if has {
				out = append(out, [2]int{a, b})
			}
		}
	}
	return out
}

// reached is what one or more steps lead to from each event, walked event by event.
func reached(r api.Rel) api.Rel {
	steps := tableOf(r)
	var out table
	for from := range 32 {
		todo := []int{from}
		for len(todo) > 0 {
			at := todo[0]
			todo = todo[1:]
			for to := range 32 {
				if steps[at][to] && !out[from][to] {
					out[from][to] = true
					todo = append(todo, to)
				}
			}
		}
	}
	return relOf(out)
}

// followed is Seq of two.
func followed(first, second api.Rel) api.Rel {
	one, two := tableOf(first), tableOf(second)
	return made(func(a, c int) bool {
		for b := range 32 {
			if one[a][b] && two[b][c] {
				return true
			}
		}
		return false
	})
}

// 2.1

func TestEvents(t *testing.T) {
	sameSet(t, "Events of none", Events(), 0)
	for _, a := range odd {
		for _, b := range odd {
			var want row
			for _, e := range []int{a, b, a} {
				if e >= 0 && e <= 31 {
					want[e] = true
				}
			}
			sameSet(t, "Events", Events(a, b, a), setOf(want), a, b, a)
		}
	}
	sameSet(t, "Events", Events(0), 1)
	sameSet(t, "Events", Events(31), 1<<31)
	sameSet(t, "Events", Events(odd...), Events(0, 1, 2, 5, 15, 16, 30, 31))
}

func TestFirst(t *testing.T) {
	for _, n := range append([]int{3, 4, 7, 8, 17, 29}, odd...) {
		var want row
		for e := range want {
			want[e] = e < n
		}
		sameSet(t, "First", First(n), setOf(want), n)
	}
}

func TestList(t *testing.T) {
	for _, s := range sets {
		var want []int
		for e, has := range rowOf(s) {
			if has {
				want = append(want, e)
			}
		}
		if got := List(s); !slices.Equal(got, want) {
			t.Errorf("List(%b) = %v, want %v", s, got, want)
		}
		sameSet(t, "Events of List", Events(List(s)...), s, s)
	}
}

// 2.2

func TestPair(t *testing.T) {
	sameRel(t, "Pair of none", Pair(), none)
	for _, a := range odd {
		for _, b := range odd {
			want := of(3, 3)
			if a >= 0 && a <= 31 && b >= 0 && b <= 31 {
				want = of(3, 3, a, b)
			}
			sameRel(t, "Pair", Pair([2]int{a, b}, [2]int{3, 3}, [2]int{a, b}), want, a, b)
		}
	}
	for _, r := range relations() {
		sameRel(t, "Pair of Pairs", Pair(Pairs(r)...), r)
	}
}

func TestIdAndCross(t *testing.T) {
	for _, a := range sets {
		inA := rowOf(a)
		sameRel(t, "Id", Id(a), made(func(x, y int) bool { return x == y && inA[x] }), a)
		for _, b := range sets {
			inB := rowOf(b)
			sameRel(t, "Cross", Cross(a, b), made(func(x, y int) bool { return inA[x] && inB[y] }), a, b)
		}
	}
}

func TestUnionMeetMinus(t *testing.T) {
	sameRel(t, "Union of none", Union(), none)
	sameRel(t, "Meet of none", Meet(), every)
	l := relations()
	for i, a := range l {
		sameRel(t, "Union of one", Union(a), a)
		sameRel(t, "Meet of one", Meet(a), a)
		inA := tableOf(a)
		for j, b := range l {
			inB := tableOf(b)
			c := l[(i+j)%len(l)]
			inC := tableOf(c)
			sameRel(t, "Union", Union(a, b), made(func(x, y int) bool { return inA[x][y] || inB[x][y] }), i, j)
			sameRel(t, "Meet", Meet(a, b), made(func(x, y int) bool { return inA[x][y] && inB[x][y] }), i, j)
			sameRel(t, "Minus", Minus(a, b), made(func(x, y int) bool { return inA[x][y] && !inB[x][y] }), i, j)
			sameRel(t, "Union of three", Union(a, b, c), made(func(x, y int) bool { return inA[x][y] || inB[x][y] || inC[x][y] }), i, j)
			sameRel(t, "Meet of three", Meet(a, b, c), made(func(x, y int) bool { return inA[x][y] && inB[x][y] && inC[x][y] }), i, j)
		}
	}
}

func TestSeq(t *testing.T) {
	sameRel(t, "Seq of none", Seq(), selves)
	l := relations()
	for i, a := range l {
		sameRel(t, "Seq of one", Seq(a), a, i)
		for j, b := range l {
			ab := followed(a, b)
			c := l[(i*7+j)%len(l)]
			sameRel(t, "Seq", Seq(a, b), ab, i, j)
			sameRel(t, "Seq of three", Seq(a, b, c), followed(ab, c), i, j)
		}
	}
	sameRel(t, "Seq of four", Seq(of(0, 1, 5, 1), of(1, 31), of(31, 0, 31, 2), of(0, 0, 2, 31)), of(0, 0, 0, 31, 5, 0, 5, 31))
	sameRel(t, "Seq that breaks off", Seq(of(0, 1), of(2, 3)), none)
}

func TestInverse(t *testing.T) {
	for i, r := range relations() {
		in := tableOf(r)
		sameRel(t, "Inverse", Inverse(r), made(func(x, y int) bool { return in[y][x] }), i)
	}
}

func TestPlusStarMaybe(t *testing.T) {
	for i, r := range relations() {
		sameRel(t, "Plus", Plus(r), reached(r), i)
		in, far := tableOf(r), tableOf(reached(r))
		for _, u := range sets {
			inU := rowOf(u)
			sameRel(t, "Star", Star(u, r), made(func(x, y int) bool { return far[x][y] || x == y && inU[x] }), u, i)
			sameRel(t, "Maybe", Maybe(u, r), made(func(x, y int) bool { return in[x][y] || x == y && inU[x] }), u, i)
		}
	}
}

// 2.3

func TestHas(t *testing.T) {
	for i, r := range relations() {
		in := tableOf(r)
		for _, a := range odd {
			for _, b := range odd {
				want := a >= 0 && a <= 31 && b >= 0 && b <= 31 && in[a][b]
				sameBool(t, "Has", Has(r, a, b), want, i, a, b)
			}
		}
	}
}

func TestTold(t *testing.T) {
	for i, r := range relations() {
		want := tablePairs(r)
		var first, second row
		loop := false
		for _, p := range want {
			first[p[0]], second[p[1]] = true, true
			loop = loop || p[0] == p[1]
		}
		sameSet(t, "Domain", Domain(r), setOf(first), i)
		sameSet(t, "Range", Range(r), setOf(second), i)
		if got := Pairs(r); !slices.Equal(got, want) {
			t.Errorf("Pairs of relation %d = %v, want %v", i, got, want)
		}
		if got := Count(r); got != len(want) {
			t.Errorf("Count of relation %d = %d, want %d", i, got, len(want))
		}
		sameBool(t, "Empty", Empty(r), len(want) == 0, i)
		sameBool(t, "Irreflexive", Irreflexive(r), !loop, i)
	}
	if Count(every) != 1024 || Count(none) != 0 || Count(selves) != 32 {
		t.Error("Count of all pairs, of none, of each event with itself")
	}
}

func TestAcyclic(t *testing.T) {
	for i, r := range relations() {
		far := tableOf(reached(r))
		want := true
		for e := range far {
			want = want && !far[e][e]
		}
		sameBool(t, "Acyclic", Acyclic(r), want, i)
	}
	sameBool(t, "Acyclic", Acyclic(rising), true)
	sameBool(t, "Acyclic", Acyclic(ring), false)
	for e := range 32 {
		sameBool(t, "Acyclic, an event with itself", Acyclic(of(e, e)), false, e)
		sameBool(t, "Irreflexive, an event with itself", Irreflexive(of(e, e)), false, e)
		sameBool(t, "Empty, an event with itself", Empty(of(e, e)), false, e)
	}
}

// 2.4

// laid is the row that Order asks for, by looking at every pair anew.
func laid(u api.Set, r api.Rel) ([]int, bool) {
	left, in := rowOf(u), tableOf(r)
	var out []int
	for left != (row{}) {
		at := -1
		for e := 31; e >= 0; e-- {
			free := left[e]
			for from := range 32 {
				free = free && !(left[from] && in[from][e])
			}
			if free {
				at = e
			}
		}
		if at < 0 {
			return nil, false
		}
		out = append(out, at)
		left[at] = false
	}
	return out, true
}

func TestOrder(t *testing.T) {
	for i, r := range relations() {
		for _, u := range sets {
			got, ok := Order(u, r)
			want, wantOk := laid(u, r)
			if !slices.Equal(got, want) || ok != wantOk {
				t.Errorf("Order(%b, relation %d) = %v %v, want %v %v", u, i, got, ok, want, wantOk)
			}
		}
	}
}

func TestOrderByHand(t *testing.T) {
	for _, x := range []struct {
		what string
		u    api.Set
		r    api.Rel
		want []int
		ok   bool
	}{
		{"no events", 0, every, nil, true},
		{"no pairs", 1<<31 | 1<<4 | 1, none, []int{0, 4, 31}, true},
		{"an event with itself", 1, of(0, 0), nil, false},
		{"an event with itself, behind others", 7, of(2, 2), nil, false},
		{"one with itself that is not asked for", 3, of(2, 2, 2, 0), []int{0, 1}, true},
		{"a circle through one that is not asked for", 5, of(0, 1, 1, 2, 2, 1, 1, 0), []int{0, 2}, true},
		{"steps through one that is not asked for don't count", 5, of(2, 1, 1, 0), []int{0, 2}, true},
		{"a circle behind one that is laid", 7, of(1, 2, 2, 1), nil, false},
		{"the least of those that are free", 15, of(3, 0, 0, 2), []int{1, 3, 0, 2}, true},
		{"the edges", 1<<31 | 1, of(31, 0), []int{31, 0}, true},
		{"all, turned round", full, falling, reversed(32), true},
	} {
		if got, ok := Order(x.u, x.r); !slices.Equal(got, x.want) || ok != x.ok {
			t.Errorf("Order, %s: %v %v, want %v %v", x.what, got, ok, x.want, x.ok)
		}
	}
	if got, ok := Order(7, of(1, 2, 2, 1)); len(got) != 0 || ok {
		t.Errorf("Order that is refused tells %v", got)
	}
}

func reversed(n int) (out []int) {
	for i := range n {
		out = append(out, n-1-i)
	}
	return out
}

// 2.5

func TestUnionAndMeetAskForNoOrder(t *testing.T) {
	l := relations()
	for i, a := range l {
		for j, b := range l {
			c := l[(i*5+j*3)%len(l)]
			sameRel(t, "Union, order", Union(a, b, c), Union(c, a, b), i, j)
			sameRel(t, "Union, order", Union(a, b), Union(b, a), i, j)
			sameRel(t, "Union, grouping", Union(a, Union(b, c)), Union(Union(a, b), c), i, j)
			sameRel(t, "Union, grouping", Union(a, b, c), Union(Union(a, b), Union(c)), i, j)
			sameRel(t, "Meet, order", Meet(a, b, c), Meet(c, a, b), i, j)
			sameRel(t, "Meet, order", Meet(a, b), Meet(b, a), i, j)
			sameRel(t, "Meet, grouping", Meet(a, Meet(b, c)), Meet(Meet(a, b), c), i, j)
			sameRel(t, "Meet, grouping", Meet(a, b, c), Meet(Meet(a, b), Meet(c)), i, j)
		}
		sameRel(t, "Union with none", Union(a, Union()), a, i)
		sameRel(t, "Meet with none", Meet(a, Meet()), a, i)
	}
}

func TestSeqAsksForNoGrouping(t *testing.T) {
	l := relations()
	for i, a := range l {
		for j, b := range l {
			c := l[(i*5+j*3)%len(l)]
			sameRel(t, "Seq, grouping", Seq(a, Seq(b, c)), Seq(Seq(a, b), c), i, j)
			sameRel(t, "Seq, grouping", Seq(a, b, c), Seq(a, Seq(b, c)), i, j)
			sameRel(t, "Inverse of Seq", Inverse(Seq(a, b)), Seq(Inverse(b), Inverse(a)), i, j)
			sameRel(t, "Inverse of Seq of three", Inverse(Seq(a, b, c)), Seq(Inverse(c), Inverse(b), Inverse(a)), i, j)
		}
		sameRel(t, "Seq with none ahead", Seq(Seq(), a), a, i)
		sameRel(t, "Seq with none behind", Seq(a, Seq()), a, i)
		sameRel(t, "Inverse, twice", Inverse(Inverse(a)), a, i)
	}
}

func TestPlusIsTheLeast(t *testing.T) {
	l := relations()
	for i, r := range l {
		p := Plus(r)
		sameRel(t, "Plus holds r", Minus(r, p), none, i)
		sameRel(t, "Plus is closed", Minus(Seq(p, p), p), none, i)
		for j, s := range l {
			closed := Union(reached(Union(r, s)), r)
			sameRel(t, "Plus is the least one", Minus(p, closed), none, i, j)
		}
		// Without one of its pairs it no longer holds r or is no longer closed.
		for _, pair := range Pairs(p) {
			less := Minus(p, Pair(pair))
			if Empty(Minus(r, less)) && Empty(Minus(Seq(less, less), less)) {
				t.Errorf("Plus of relation %d: a lesser one has no %v", i, pair)
			}
		}
	}
}

// 2.6

func TestOrderComesToARow(t *testing.T) {
	for i, r := range relations() {
		for _, u := range sets {
			between := Meet(r, Cross(u, u))
			got, ok := Order(u, r)
			sameBool(t, "Order comes to a row", ok, Acyclic(between), u, i)
			if !ok {
				continue
			}
			if sorted := slices.Sorted(slices.Values(got)); !slices.Equal(sorted, List(u)) {
				t.Errorf("Order(%b, relation %d) = %v: not the events of the set", u, i, got)
			}
			for _, p := range Pairs(between) {
				if slices.Index(got, p[0]) >= slices.Index(got, p[1]) {
					t.Errorf("Order(%b, relation %d) = %v: %v goes back", u, i, got, p)
				}
			}
		}
	}
}

// The table of examples.

func TestTable(t *testing.T) {
	if got := List(First(3)); !slices.Equal(got, []int{0, 1, 2}) {
		t.Errorf("List(First(3)) = %v", got)
	}
	if got := List(Events(5, 1, 40)); !slices.Equal(got, []int{1, 5}) {
		t.Errorf("List(Events(5, 1, 40)) = %v", got)
	}
	if got := Pairs(Seq(Pair([2]int{0, 1}), Pair([2]int{1, 2}, [2]int{1, 3}))); !slices.Equal(got, [][2]int{{0, 2}, {0, 3}}) {
		t.Errorf("Pairs(Seq) = %v", got)
	}
	if got := Pairs(Plus(Pair([2]int{0, 1}, [2]int{1, 2}))); !slices.Equal(got, [][2]int{{0, 1}, {0, 2}, {1, 2}}) {
		t.Errorf("Pairs(Plus) = %v", got)
	}
	sameBool(t, "Acyclic", Acyclic(Pair([2]int{0, 1}, [2]int{1, 0})), false)
	if got, ok := Order(First(3), Pair([2]int{2, 0})); !slices.Equal(got, []int{1, 2, 0}) || !ok {
		t.Errorf("Order = %v %v", got, ok)
	}
	if got, ok := Order(First(2), Pair([2]int{0, 1}, [2]int{1, 0})); len(got) != 0 || ok {
		t.Errorf("Order = %v %v", got, ok)
	}
}

// R3

// held answers a list with room behind it, and a call that tells whether list
// and room are as they were.
func held[T comparable](fill T, parts ...T) ([]T, func() bool) {
	room := append(slices.Clone(parts), fill, fill, fill)
	was := slices.Clone(room)
	return room[:len(parts)], func() bool { return slices.Equal(room, was) }
}

func TestListsStayAsTheyWere(t *testing.T) {
	es, esStay := held(77, 31, -1, 5, 40, 5, 0)
	Events(es...)
	ps, psStay := held([2]int{7, 7}, [2]int{1, 0}, [2]int{-1, 3}, [2]int{31, 32}, [2]int{1, 0})
	Pair(ps...)
	if !esStay() || !psStay() {
		t.Error("Events or Pair writes into its list")
	}
	for name, call := range map[string]func(...api.Rel) api.Rel{"Union": Union, "Meet": Meet, "Seq": Seq} {
		rs, stay := held(leaps, ring, falling, of(0, 0, 31, 31), every)
		call(rs...)
		call(rs[:1]...)
		call(rs[:0]...)
		if !stay() {
			t.Errorf("%s writes into its list", name)
		}
	}
}

func TestAnswersAreNewMemory(t *testing.T) {
	spoil := func(l []int) {
		for i := range l[:cap(l)] {
			l[:cap(l)][i] = -7
		}
	}
	spoil(List(full))
	row, _ := Order(full, falling)
	spoil(row)
	ps := Pairs(ring)
	clear(ps[:cap(ps)])
	if !slices.Equal(List(full), allEvents()) {
		t.Error("List answers memory that it keeps")
	}
	if row, _ := Order(full, falling); !slices.Equal(row, reversed(32)) {
		t.Error("Order answers memory that it keeps")
	}
	if !slices.Equal(Pairs(ring), tablePairs(ring)) {
		t.Error("Pairs answers memory that it keeps")
	}
}

// allEvents is the numbers 0 to 31.
func allEvents() []int {
	out := reversed(32)
	slices.Reverse(out)
	return out
}

// R6

func TestNothingPanics(t *testing.T) {
	nothing := [][2]int{}
	Pair(nothing...)
	Pair([][2]int(nil)...)
	Events([]int(nil)...)
	for _, call := range []func(...api.Rel) api.Rel{Union, Meet, Seq} {
		call([]api.Rel(nil)...)
	}
	for _, a := range odd {
		First(a)
		Events(a)
		for _, b := range odd {
			Pair([2]int{a, b})
			Has(every, a, b)
		}
	}
	for _, r := range relations() {
		for _, u := range sets {
			Order(u, r)
			Star(u, r)
			Maybe(u, r)
		}
	}
}
