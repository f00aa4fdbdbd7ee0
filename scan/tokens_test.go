package scan

import (
	"math"
	"math/big"
	"regexp"
	"slices"
	"strings"
	"testing"

	"belated/api"
)

// The tests hold the calls against models of their own: patterns that are
// written out for words, numbers without a bound for values, a list that is
// eaten from the left for a cursor.

// oneByteMarks is written out, so that it hangs on no list of the program.
var oneByteMarks = []string{"{", "}", "(", ")", "[", "]", ";", "|", ",", ":", "=", "+", "-", "#", "$", "~", "*", "/", "\\", "&", "?", "^"}

func name(text string, at int) api.Token { return api.Token{Kind: api.TokName, Text: text, At: at} }

func mark(text string, at int) api.Token { return api.Token{Kind: api.TokMark, Text: text, At: at} }

func numeral(text string, n, at int) api.Token {
	return api.Token{Kind: api.TokNumber, Text: text, N: n, At: at}
}

// dice draws the same numbers at each run.
type dice uint64

func (d *dice) below(n int) int {
	*d = *d*6364136223846793005 + 1442695040888963407
	return int(uint64(*d>>33) % uint64(n))
}

func (d *dice) text(from []string) string { return from[d.below(len(from))] }

func (d *dice) texts(from []string, n int) []string {
	l := make([]string, d.below(n+1))
	for i := range l {
		l[i] = d.text(from)
	}
	return l
}

var (
	blankPattern  = regexp.MustCompile(`^[ \t\n]+`)
	remarkPattern = regexp.MustCompile(`^\(\*(?s:.*?)\*\)`)
	rowPattern    = regexp.MustCompile(`^[0-9][0-9A-Za-z]*`)
	valuePattern  = regexp.MustCompile(`^([0-9]{1,19}|0x[0-9a-fA-F]{1,16})$`)
	namePattern   = regexp.MustCompile(`^[A-Za-z_][A-Za-z0-9_.]*`)
)

// modelValue is the value of a row that begins with a digit, if it has one.
func modelValue(row string) (int, bool) {
	if !valuePattern.MatchString(row) {
		return 0, false
	}
	n, ok := new(big.Int), false
	if strings.HasPrefix(row, "0x") {
		n, ok = n.SetString(row[2:], 16)
	} else {
		n, ok = n.SetString(row, 10)
	}
	switch most := new(big.Int).Lsh(big.NewInt(1), 63); {
	case !ok || n.Cmp(most) > 0:
		return 0, false
	case n.Cmp(most) == 0:
		return math.MinInt, true
	}
	return int(n.Int64()), true
}

func modelMark(text string) string {
	for _, m := range append([]string{`/\`, `\/`}, oneByteMarks...) {
		if strings.HasPrefix(text, m) {
			return m
		}
	}
	return ""
}

// modelTokens is 4.1, a piece at a time.
func modelTokens(text string) ([]api.Token, api.Errno, int) {
	if len(text) > 8192 {
		return nil, api.ErrLong, 0
	}
	var l []api.Token
	for rest := text; rest != ""; {
		at := len(text) - len(rest)
		piece := blankPattern.FindString(rest) + remarkPattern.FindString(rest)
		if piece != "" {
			rest = rest[len(piece):]
			continue
		}
		if strings.HasPrefix(rest, "(*") {
			return nil, api.ErrEnd, at
		}
		var word api.Token
		if row := rowPattern.FindString(rest); row != "" {
			n, ok := modelValue(row)
			if !ok {
				return nil, api.ErrNumber, at
			}
			word = numeral(row, n, at)
		} else if s := namePattern.FindString(rest); s != "" {
			word = name(s, at)
		} else if s := modelMark(rest); s != "" {
			word = mark(s, at)
		} else {
			return nil, api.ErrByte, at
		}
		l, rest = append(l, word), rest[len(word.Text):]
	}
	return l, api.OK, 0
}

// agree holds Tokens against the model.
func agree(t *testing.T, text string) {
	t.Helper()
	l, e, at := Tokens(text)
	wantL, wantE, wantAt := modelTokens(text)
	if !slices.Equal(l, wantL) || e != wantE || at != wantAt {
		t.Errorf("4.1: Tokens(%.60q) = %v, %d at %d; want %v, %d at %d", text, l, e, at, wantL, wantE, wantAt)
	}
}

func words(t *testing.T, text string) []api.Token {
	t.Helper()
	l, e, at := Tokens(text)
	if e != api.OK || at != 0 {
		t.Errorf("4.1: Tokens(%q): %d at %d", text, e, at)
	}
	return l
}

func TestWords(t *testing.T) {
	for _, x := range []struct {
		text string
		want []api.Token
	}{
		{"", nil},
		{" ", nil},
		{"\t \n\n ", nil},
		{`MOV [x],$0x10 (* a *) /\`, []api.Token{name("MOV", 0), mark("[", 4), name("x", 5), mark("]", 6), mark(",", 7), mark("$", 8), numeral("0x10", 16, 9), mark(`/\`, 22)}},
		{"ab", []api.Token{name("ab", 0)}},
		{" \t\na\t\n b", []api.Token{name("a", 3), name("b", 7)}},
		{"_", []api.Token{name("_", 0)}},
		{"_.a.._9Z", []api.Token{name("_.a.._9Z", 0)}},
		{"a.b c_d e1", []api.Token{name("a.b", 0), name("c_d", 4), name("e1", 8)}},
		{"azAZ_a", []api.Token{name("azAZ_a", 0)}},
		{"x0x1", []api.Token{name("x0x1", 0)}},
		{"a-1", []api.Token{name("a", 0), mark("-", 1), numeral("1", 1, 2)}},
		{`/\`, []api.Token{mark(`/\`, 0)}},
		{`\/`, []api.Token{mark(`\/`, 0)}},
		{`/`, []api.Token{mark(`/`, 0)}},
		{`\`, []api.Token{mark(`\`, 0)}},
		{`/ \`, []api.Token{mark(`/`, 0), mark(`\`, 2)}},
		{`//\\/`, []api.Token{mark(`/`, 0), mark(`/\`, 1), mark(`\/`, 3)}},
		{`/\/`, []api.Token{mark(`/\`, 0), mark(`/`, 2)}},
		{`\/\`, []api.Token{mark(`\/`, 0), mark(`\`, 2)}},
		{"( *)", []api.Token{mark("(", 0), mark("*", 2), mark(")", 3)}},
		{"*)", []api.Token{mark("*", 0), mark(")", 1)}},
		{"((**)(", []api.Token{mark("(", 0), mark("(", 5)}},
	} {
		if l := words(t, x.text); !slices.Equal(l, x.want) {
			t.Errorf("4.1: Tokens(%q) = %v, want %v", x.text, l, x.want)
		}
	}
}

func TestMarks(t *testing.T) {
	for _, m := range append([]string{`/\`, `\/`}, oneByteMarks...) {
		if l := words(t, m); !slices.Equal(l, []api.Token{mark(m, 0)}) {
			t.Errorf("4.1: Tokens(%q) = %v", m, l)
		}
	}
}

func TestRemarks(t *testing.T) {
	for _, x := range []struct {
		text string
		want []api.Token
	}{
		{"(**)", nil},
		{"(***)", nil},
		{"(* a *)", nil},
		{"(* \x00\x80\r@ 12a *)", nil},
		{"(*)*)", nil},
		{"(*(*(* *)", nil},
		{"(**)(**)", nil},
		{"(* a *) (* b *)\n(* c *)x", []api.Token{name("x", 23)}},
		{"a(**)b", []api.Token{name("a", 0), name("b", 5)}},
		{"1(**)2", []api.Token{numeral("1", 1, 0), numeral("2", 2, 5)}},
		{"/(**)\\", []api.Token{mark("/", 0), mark("\\", 5)}},
		{"(* a (* b *) c *)", []api.Token{name("c", 13), mark("*", 15), mark(")", 16)}},
		{"x(* to the end *)", []api.Token{name("x", 0)}},
	} {
		if l := words(t, x.text); !slices.Equal(l, x.want) {
			t.Errorf("4.1: Tokens(%q) = %v, want %v", x.text, l, x.want)
		}
	}
}

func TestNumbers(t *testing.T) {
	for text, n := range map[string]int{
		"0": 0, "7": 7, "10": 10, "0123": 123, "008": 8,
		"0000000000000000000": 0, "0000000000000000001": 1,
		"1000000000000000000": 1000000000000000000,
		"9223372036854775807": math.MaxInt, "9223372036854775808": math.MinInt,
		"0x0": 0, "0x1f": 31, "0xAbCdEf": 0xabcdef, "0x1bcdefABCDEF0123": 0x1bcdefabcdef0123, "0x0000000000000001": 1,
		"0x7fffffffffffffff": math.MaxInt, "0x7FFFFFFFFFFFFFFF": math.MaxInt, "0x8000000000000000": math.MinInt,
	} {
		if l := words(t, text); !slices.Equal(l, []api.Token{numeral(text, n, 0)}) {
			t.Errorf("4.1: Tokens(%q) = %v, want %d", text, l, n)
		}
		if l := words(t, " -"+text+"_"); !slices.Equal(l, []api.Token{mark("-", 1), numeral(text, n, 2), name("_", 2+len(text))}) {
			t.Errorf("4.1: Tokens(%q) = %v, want %d", " -"+text+"_", l, n)
		}
	}
	if l := words(t, "1_a2"); !slices.Equal(l, []api.Token{numeral("1", 1, 0), name("_a2", 1)}) {
		t.Errorf("4.1: `_` behind a number: %v", l)
	}
}

func TestWrong(t *testing.T) {
	for _, x := range []struct {
		text string
		e    api.Errno
		at   int
	}{
		{"12a", api.ErrNumber, 0}, {"a@", api.ErrByte, 1}, {"(* a", api.ErrEnd, 0},
		{"1a", api.ErrNumber, 0}, {"0a", api.ErrNumber, 0}, {"a 1f", api.ErrNumber, 2}, {"1x0", api.ErrNumber, 0}, {"00x1", api.ErrNumber, 0},
		{"0x", api.ErrNumber, 0}, {" 0x ", api.ErrNumber, 1}, {"0x_", api.ErrNumber, 0}, {"0x1g", api.ErrNumber, 0}, {"0xx1", api.ErrNumber, 0}, {"0x0x1", api.ErrNumber, 0},
		{"0X", api.ErrNumber, 0}, {"0X1", api.ErrNumber, 0}, {"0b1", api.ErrNumber, 0}, {"0o7", api.ErrNumber, 0}, {"1e3", api.ErrNumber, 0},
		{"00000000000000000000", api.ErrNumber, 0}, {"10000000000000000000", api.ErrNumber, 0}, {"00000000000000000001", api.ErrNumber, 0}, {"18446744073709551617", api.ErrNumber, 0},
		{"9223372036854775809", api.ErrNumber, 0}, {"9999999999999999999", api.ErrNumber, 0},
		{"0x8000000000000001", api.ErrNumber, 0}, {"0xabcdefABCDEF0123", api.ErrNumber, 0}, {"0xFFFFFFFFFFFFFFFF", api.ErrNumber, 0}, {"0x00000000000000000", api.ErrNumber, 0}, {"0x10000000000000000", api.ErrNumber, 0},
		{"1.5", api.ErrByte, 1}, {"0x1.a", api.ErrByte, 3}, {".", api.ErrByte, 0}, {".a", api.ErrByte, 0}, {"a +.", api.ErrByte, 3},
		{"(*", api.ErrEnd, 0}, {"(*)", api.ErrEnd, 0}, {"(* *", api.ErrEnd, 0}, {"(* )", api.ErrEnd, 0}, {"ab (**)(* \n", api.ErrEnd, 7}, {"(**)(*)", api.ErrEnd, 4}, {"(*(**)(*", api.ErrEnd, 6},
		{"\r", api.ErrByte, 0}, {"a\v", api.ErrByte, 1}, {"\x00", api.ErrByte, 0}, {"a \x7f", api.ErrByte, 2}, {"\x80", api.ErrByte, 0}, {"a\xff", api.ErrByte, 1}, {"aé", api.ErrByte, 1}, {"1\u00a0", api.ErrByte, 1}, {"²", api.ErrByte, 0},
		{"!", api.ErrByte, 0}, {"\"", api.ErrByte, 0}, {"%", api.ErrByte, 0}, {"'", api.ErrByte, 0}, {"<", api.ErrByte, 0}, {">", api.ErrByte, 0}, {"@", api.ErrByte, 0}, {"`", api.ErrByte, 0},
		{"@ 1a (*", api.ErrByte, 0}, {"1a @ (*", api.ErrNumber, 0}, {"(* @ 1a", api.ErrEnd, 0}, {"a @ 1a", api.ErrByte, 2}, {"a 1a @", api.ErrNumber, 2},
	} {
		if l, e, at := Tokens(x.text); l != nil || e != x.e || at != x.at {
			t.Errorf("4.1: Tokens(%q) = %v, %d at %d; want %d at %d", x.text, l, e, at, x.e, x.at)
		}
	}
}

func TestLong(t *testing.T) {
	for _, piece := range []string{" ", "a", "+", "@", "1 ", "(**)"} {
		agree(t, strings.Repeat(piece, api.MaxText/len(piece)))
		for _, long := range []string{strings.Repeat(piece, api.MaxText/len(piece)) + " ", strings.Repeat(piece, 2*api.MaxText)} {
			if l, e, at := Tokens(long); l != nil || e != api.ErrLong || at != 0 {
				t.Errorf("4.1: of %d bytes of %q: %d words, %d at %d", len(long), piece, len(l), e, at)
			}
		}
	}
	if l := words(t, strings.Repeat("a", api.MaxText)); len(l) != 1 || len(l[0].Text) != api.MaxText {
		t.Errorf("4.1: a name of MaxText bytes: %d words", len(l))
	}
	if l, e, at := Tokens(strings.Repeat(" ", api.MaxText-1) + "@"); l != nil || e != api.ErrByte || at != api.MaxText-1 {
		t.Errorf("4.1: the last byte: %d at %d", e, at)
	}
}

func TestEveryPairOfBytes(t *testing.T) {
	for a := range 256 {
		agree(t, string([]byte{byte(a)}))
		for b := range 256 {
			agree(t, string([]byte{byte(a), byte(b)}))
			agree(t, string([]byte{'a', byte(a), byte(b)}))
			agree(t, string([]byte{'1', byte(a), byte(b)}))
		}
	}
}

func TestShortTexts(t *testing.T) {
	const bytes = `(*)/\0x9gA_.- @`
	var grow func(text string, n int)
	grow = func(text string, n int) {
		agree(t, text)
		for i := 0; n > 0 && i < len(bytes); i++ {
			grow(text+bytes[i:i+1], n-1)
		}
	}
	grow("", 4)
}

var pieces = append([]string{`/\`, `\/`, " ", "\t", "\n", "(*", "*)", "(**)", "(* a 1x @ *)", "0x", "0", "9", "12", "0x1F", "9223372036854775807", "9223372036854775808", "9223372036854775809", "0x8000000000000000", "0x8000000000000001", "00000000000000000000", "a", "Z", "_", ".", "x86", "MOV", "g", "\r", "@", "\x80", "é"}, oneByteMarks...)

func TestDrawnTexts(t *testing.T) {
	d := dice(4)
	for range 50000 {
		agree(t, strings.Join(d.texts(pieces, 9), ""))
		agree(t, strings.Join(d.texts(pieces, 5), " "))
	}
}

// 4.3: words with blanks between are cut into themselves.
func TestWordsLaidOut(t *testing.T) {
	whole := append([]string{`/\`, `\/`, "0", "007", "5", "0x10", "0xfF", "9223372036854775807", "9223372036854775808", "0x8000000000000000", "a", "MOV", "_", "a.b_1", "Z9", "x"}, oneByteMarks...)
	blanks := []string{" ", "\t", "\n", "  ", " \n\t"}
	d := dice(43)
	for range 20000 {
		texts := d.texts(whole, 12)
		var b strings.Builder
		var at []int
		for _, s := range texts {
			at = append(at, b.Len())
			b.WriteString(s + d.text(blanks))
		}
		l := words(t, b.String())
		if len(l) != len(texts) {
			t.Fatalf("4.3: %q: %v", texts, l)
		}
		for i, w := range l {
			if w.Text != texts[i] || w.At != at[i] {
				t.Errorf("4.3: word %d of %q at %d: %v", i, texts, at[i], w)
			}
			alone := words(t, w.Text)
			if w.At = 0; !slices.Equal(alone, []api.Token{w}) {
				t.Errorf("4.3: %q by itself: %v, among others: %v", w.Text, alone, w)
			}
		}
	}
}

// R3, R9: two answers share nothing, nor the room behind them.
func TestTokensAreNew(t *testing.T) {
	const text = "a b c"
	one, two := words(t, text), words(t, text)
	one[0] = mark("spoilt", 9)
	room := append(one, mark("spoilt", 9))
	room[1] = mark("spoilt", 9)
	if want := []api.Token{name("a", 0), name("b", 2), name("c", 4)}; !slices.Equal(two, want) || !slices.Equal(words(t, text), want) {
		t.Errorf("R3: %v", two)
	}
}
