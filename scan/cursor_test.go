package scan

import (
	"math"
	"slices"
	"testing"

	"belated/api"
)

func over(t *testing.T, text string) *Cursor {
	t.Helper()
	return New(words(t, text)...)
}

// place fails if a cursor is not ahead of so many words, at that place.
func place(t *testing.T, c *Cursor, left, at int) {
	t.Helper()
	if c.Left() != left || c.At() != at {
		t.Errorf("4.2: Left %d, At %d; want %d, %d", c.Left(), c.At(), left, at)
	}
}

func TestExample(t *testing.T) {
	c := over(t, "- 5 x")
	if n, ok := c.Number(); n != -5 || !ok {
		t.Errorf("4.2: Number = %d, %v", n, ok)
	}
	if !c.Take("x") {
		t.Error("4.2: Take")
	}
	place(t, c, 0, 5)
}

func TestPeekAndNext(t *testing.T) {
	c := over(t, " a 7\n+")
	for i, want := range []api.Token{name("a", 1), numeral("7", 7, 3), mark("+", 5)} {
		place(t, c, 3-i, want.At)
		for range 2 {
			if w, ok := c.Peek(); w != want || !ok {
				t.Errorf("4.2: Peek = %v, %v; want %v", w, ok, want)
			}
			place(t, c, 3-i, want.At)
		}
		if w, ok := c.Next(); w != want || !ok {
			t.Errorf("4.2: Next = %v, %v; want %v", w, ok, want)
		}
	}
	place(t, c, 0, 6)
}

// nothing fails if a call answers other than that there is no word.
func nothing(t *testing.T, c *Cursor, at int) {
	t.Helper()
	for range 2 {
		if w, ok := c.Peek(); ok || w != (api.Token{}) {
			t.Errorf("4.2: Peek = %v, %v", w, ok)
		}
		if w, ok := c.Next(); ok || w != (api.Token{}) {
			t.Errorf("4.2: Next = %v, %v", w, ok)
		}
		if s, ok := c.Name(); ok || s != "" {
			t.Errorf("4.2: Name = %q, %v", s, ok)
		}
		if n, ok := c.Number(); ok || n != 0 {
			t.Errorf("4.2: Number = %d, %v", n, ok)
		}
		if c.Take("") || c.Take("a") || c.Take("a", "b") || !c.Take() {
			t.Error("4.2: Take behind the last word")
		}
		place(t, c, 0, at)
	}
}

func TestBehindTheLast(t *testing.T) {
	nothing(t, New(), 0)
	nothing(t, New([]api.Token{}...), 0)
	nothing(t, over(t, "  (* a *)"), 0)
	for text, at := range map[string]int{"a": 1, "  abc (* a *) ": 5, `x /\`: 4, "1 0x10\n": 6, "a -": 3} {
		c := over(t, text)
		for _, ok := c.Next(); ok; _, ok = c.Next() {
		}
		nothing(t, c, at)
	}
}

func TestTake(t *testing.T) {
	for _, x := range []struct {
		text  string
		marks []string
		ok    bool
		left  int
		at    int
	}{
		{"a + b", nil, true, 3, 0},
		{"a + b", []string{"a"}, true, 2, 2},
		{"a + b", []string{"a", "+"}, true, 1, 4},
		{"a + b", []string{"a", "+", "b"}, true, 0, 5},
		{"a + b", []string{"a", "+", "b", "b"}, false, 3, 0},
		{"a + b", []string{"a", "+", "b", ""}, false, 3, 0},
		{"a + b", []string{"a", "+", "c"}, false, 3, 0},
		{"a + b", []string{"a", "b"}, false, 3, 0},
		{"a + b", []string{"+"}, false, 3, 0},
		{"a + b", []string{"b", "+", "a"}, false, 3, 0},
		{"a + b", []string{""}, false, 3, 0},
		{"a + b", []string{"a +"}, false, 3, 0},
		{"abc", []string{"a"}, false, 1, 0},
		{"a", []string{"abc"}, false, 1, 0},
		{"A", []string{"a"}, false, 1, 0},
		{"7", []string{"7"}, false, 1, 0},
		{"7", nil, true, 1, 0},
		{"a 7 b", []string{"a", "7", "b"}, false, 3, 0},
		{"a 7 b", []string{"a", "7"}, false, 3, 0},
		{"a 7 b", []string{"a"}, true, 2, 2},
		{"0x10", []string{"0x10"}, false, 1, 0},
		{`/\ / \`, []string{`/\`}, true, 2, 3},
		{`/\ / \`, []string{`/`, `\`}, false, 3, 0},
		{`/\ / \`, []string{`/\`, `/`, `\`}, true, 0, 6},
		{"", []string{"a"}, false, 0, 0},
	} {
		c := over(t, x.text)
		if ok := c.Take(x.marks...); ok != x.ok {
			t.Errorf("4.2: over %q Take(%q) = %v", x.text, x.marks, ok)
		}
		place(t, c, x.left, x.at)
	}
}

func TestName(t *testing.T) {
	c := over(t, "ab.c 7 + _")
	if s, ok := c.Name(); s != "ab.c" || !ok {
		t.Errorf("4.2: Name = %q, %v", s, ok)
	}
	for _, at := range []int{5, 7} {
		if s, ok := c.Name(); s != "" || ok || c.At() != at {
			t.Errorf("4.2: Name of no name = %q, %v, At %d", s, ok, c.At())
		}
		c.Next()
	}
	if s, ok := c.Name(); s != "_" || !ok {
		t.Errorf("4.2: Name = %q, %v", s, ok)
	}
	place(t, c, 0, 10)
}

func TestNumber(t *testing.T) {
	for _, x := range []struct {
		text     string
		n        int
		ok       bool
		left, at int
	}{
		{"5 a", 5, true, 1, 2},
		{"0", 0, true, 0, 1},
		{"-0", 0, true, 0, 2},
		{"-5 a", -5, true, 1, 3},
		{"- (* b *)\n5", -5, true, 0, 11},
		{"-0x10 1", -16, true, 1, 6},
		{"- a", 0, false, 2, 0},
		{"-", 0, false, 1, 0},
		{"- - 5", 0, false, 3, 0},
		{"+ 5", 0, false, 2, 0},
		{"+5", 0, false, 2, 0},
		{"a 5", 0, false, 2, 0},
		{"_1", 0, false, 1, 0},
		{"5 - 5", 5, true, 2, 2},
		{"9223372036854775807", math.MaxInt, true, 0, 19},
		{"-9223372036854775807", -math.MaxInt, true, 0, 20},
		{"9223372036854775808", math.MinInt, true, 0, 19},
		{"-9223372036854775808", math.MinInt, true, 0, 20},
		{"-0x8000000000000000", math.MinInt, true, 0, 19},
	} {
		c := over(t, x.text)
		if n, ok := c.Number(); n != x.n || ok != x.ok {
			t.Errorf("4.2: over %q Number = %d, %v; want %d, %v", x.text, n, ok, x.n, x.ok)
		}
		place(t, c, x.left, x.at)
	}
}

// What a word is says its Kind: its Text alone makes no number, name or minus.
func TestWordsMadeByHand(t *testing.T) {
	c := New(api.Token{Kind: api.TokName, Text: "-", At: 4}, numeral("5", 5, 6))
	if n, ok := c.Number(); n != 0 || ok {
		t.Errorf("4.2: Number behind a name `-` = %d, %v", n, ok)
	}
	if s, ok := c.Name(); s != "-" || !ok {
		t.Errorf("4.2: Name = %q, %v", s, ok)
	}
	c = New(api.Token{Kind: api.TokMark, Text: "a", N: 3}, api.Token{Text: "b", N: 3}, api.Token{Kind: 9, Text: "c", At: math.MaxInt})
	for _, s := range []string{"a", "b", "c"} {
		if _, ok := c.Name(); ok {
			t.Errorf("4.2: Name of %q", s)
		}
		if n, ok := c.Number(); n != 0 || ok {
			t.Errorf("4.2: Number of %q = %d", s, n)
		}
		if !c.Take(s) {
			t.Errorf("4.2: Take(%q)", s)
		}
	}
	if c.Left() != 0 {
		t.Errorf("4.2: Left = %d", c.Left())
	}
	c = New(numeral("", 7, -3))
	if c.Take("") || c.At() != -3 {
		t.Error("4.2: Take of a number without a text")
	}
	if n, ok := c.Number(); n != 7 || !ok || c.At() != -3 {
		t.Errorf("4.2: Number = %d, %v, At %d", n, ok, c.At())
	}
}

// R3, R9: a cursor keeps no list that it was handed, and shares nothing.
func TestCursorsAreNew(t *testing.T) {
	room := words(t, "a b c d")
	list := room[:2]
	one, two := New(list...), New(list...)
	if !slices.Equal(room, words(t, "a b c d")) {
		t.Errorf("R3: New turned its list: %v", room)
	}
	one.Next()
	if two.Left() != 2 {
		t.Errorf("R9: Left = %d", two.Left())
	}
	for i := range room {
		room[i] = mark("spoilt", 99)
	}
	if s, ok := one.Name(); s != "b" || !ok {
		t.Errorf("R3: Name = %q, %v", s, ok)
	}
	if w, ok := two.Peek(); w != name("a", 0) || !ok {
		t.Errorf("R3: Peek = %v, %v", w, ok)
	}
	place(t, one, 0, 3)
	texts := []string{"a", "b", "c"}
	if !two.Take(texts[:2]...) || !slices.Equal(texts, []string{"a", "b", "c"}) {
		t.Errorf("R3: Take turned its list: %q", texts)
	}
}

// eaten is the model of a cursor: the words that are left, and where the last
// one ended.
type eaten struct {
	left []api.Token
	end  int
}

func (m *eaten) eat(n int) { m.left = m.left[n:] }

func (m *eaten) at() int {
	if len(m.left) > 0 {
		return m.left[0].At
	}
	return m.end
}

// begins tells whether the words that are left begin with these kinds.
func (m *eaten) begins(kinds ...int) bool {
	for i, k := range kinds {
		if i >= len(m.left) || m.left[i].Kind != k {
			return false
		}
	}
	return true
}

func (m *eaten) number() (int, bool) {
	if m.begins(api.TokNumber) {
		defer m.eat(1)
		return m.left[0].N, true
	}
	if m.begins(api.TokMark, api.TokNumber) && m.left[0].Text == "-" {
		defer m.eat(2)
		return 0 - m.left[1].N, true
	}
	return 0, false
}

func (m *eaten) take(texts []string) bool {
	if len(texts) > len(m.left) {
		return false
	}
	for i, w := range m.left[:len(texts)] {
		if w.Kind == api.TokNumber || w.Text != texts[i] {
			return false
		}
	}
	m.eat(len(texts))
	return true
}

func (m *eaten) name() (string, bool) {
	if !m.begins(api.TokName) {
		return "", false
	}
	defer m.eat(1)
	return m.left[0].Text, true
}

func (m *eaten) next() (api.Token, bool) {
	if len(m.left) == 0 {
		return api.Token{}, false
	}
	defer m.eat(1)
	return m.left[0], true
}

func TestDrawnWalks(t *testing.T) {
	pool := []api.Token{name("a", 0), name("b", 0), mark("-", 0), mark("-", 0), mark("+", 0), numeral("5", 5, 0), numeral("0", 0, 0), numeral("9223372036854775808", math.MinInt, 0)}
	texts := []string{"a", "b", "-", "+", "5"}
	d := dice(42)
	for range 20000 {
		var l []api.Token
		end := 0
		for range d.below(9) {
			w := pool[d.below(len(pool))]
			w.At = end + d.below(3)
			l, end = append(l, w), w.At+len(w.Text)
		}
		c, m := New(l...), &eaten{l, end}
		for range 12 {
			walk(t, &d, c, m, texts)
			if c.Left() != len(m.left) || c.At() != m.at() {
				t.Fatalf("4.2: over %v: Left %d, At %d; want %d, %d", l, c.Left(), c.At(), len(m.left), m.at())
			}
		}
	}
}

// walk does one call, drawn, on a cursor and on its model.
func walk(t *testing.T, d *dice, c *Cursor, m *eaten, texts []string) {
	t.Helper()
	switch d.below(4) {
	case 0:
		w, ok := c.Next()
		if want, wantOK := m.next(); w != want || ok != wantOK {
			t.Errorf("4.2: Next = %v, %v; want %v, %v", w, ok, want, wantOK)
		}
	case 1:
		n, ok := c.Number()
		if want, wantOK := m.number(); n != want || ok != wantOK {
			t.Errorf("4.2: Number = %d, %v; want %d, %v", n, ok, want, wantOK)
		}
	case 2:
		s, ok := c.Name()
		if want, wantOK := m.name(); s != want || ok != wantOK {
			t.Errorf("4.2: Name = %q, %v; want %q, %v", s, ok, want, wantOK)
		}
	default:
		these := d.texts(texts, 2)
		ok := c.Take(these...)
		if want := m.take(these); ok != want {
			t.Errorf("4.2: Take(%q) = %v", these, ok)
		}
	}
}
