package ask_test

import (
	"math"
	"testing"

	"belated/api"
	"belated/ask"
	"belated/scan"
)

func over(t *testing.T, text string) *ask.Reader {
	t.Helper()
	ts, e, at := scan.Tokens(text)
	if e != api.OK {
		t.Fatalf("%q is no row of words: %d at %d", text, e, at)
	}
	return ask.New(ts...)
}

// is fails if a reader does not tell that fault, or is not ahead of so many
// words.
func is(t *testing.T, r *ask.Reader, e api.Errno, at, left int) {
	t.Helper()
	if gotE, gotAt := r.Fault(); gotE != e || gotAt != at || r.Left() != left {
		t.Errorf("5.2: %d at %d, %d words ahead, want %d at %d, %d ahead", gotE, gotAt, r.Left(), e, at, left)
	}
}

func TestMark(t *testing.T) {
	r := over(t, `, /\ [`)
	for n, text := range []string{",", `/\`, "["} {
		r.Mark(text)
		is(t, r, api.OK, 0, 2-n)
	}
	r.Mark("]")
	is(t, r, api.ErrEnd, 6, 0)
	for _, text := range []string{"  a", "  7", "  ;", `  /\`} {
		r := over(t, text)
		r.Mark(",")
		is(t, r, api.ErrForm, 2, 1)
	}
}

func TestKnown(t *testing.T) {
	r := over(t, "b a c a")
	for n, want := range []int{1, 0} {
		if k := r.Known("a", "b"); k != want {
			t.Errorf("5.2: Known of word %d = %d", n, k)
		}
		is(t, r, api.OK, 0, 3-n)
	}
	if k := r.Known("a", "b"); k != -1 {
		t.Errorf("5.2: Known of a name that is not = %d", k)
	}
	is(t, r, api.ErrWord, 4, 2)
	for text, e := range map[string]api.Errno{" A": api.ErrWord, " ab": api.ErrWord, " 7": api.ErrForm, " ,": api.ErrForm} {
		r := over(t, text)
		if k := r.Known("a", "7", ","); k != -1 {
			t.Errorf("5.2: Known of %q = %d", text, k)
		}
		is(t, r, e, 1, 1)
	}
	r = over(t, "")
	if k := r.Known("a"); k != -1 {
		t.Errorf("5.2: Known of nothing = %d", k)
	}
	is(t, r, api.ErrEnd, 0, 0)
}

func TestNum(t *testing.T) {
	r := over(t, "0 -5 0x10 -9223372036854775808")
	for _, want := range []int{0, -5, 16, math.MinInt} {
		if n := r.Num(); n != want {
			t.Errorf("5.1: Num = %d, want %d", n, want)
		}
	}
	is(t, r, api.OK, 0, 0)
	for _, x := range []struct {
		text string
		e    api.Errno
		at   int
		left int
	}{{"", api.ErrEnd, 0, 0}, {" a", api.ErrForm, 1, 1}, {" +5", api.ErrForm, 1, 2}, {" -", api.ErrEnd, 2, 0}, {" - a", api.ErrForm, 3, 1}, {" --5", api.ErrForm, 2, 2}} {
		r := over(t, x.text)
		if n := r.Num(); n != 0 {
			t.Errorf("5.1: Num of %q = %d", x.text, n)
		}
		is(t, r, x.e, x.at, x.left)
	}
}

func TestEnd(t *testing.T) {
	r := over(t, "")
	r.End()
	is(t, r, api.OK, 0, 0)
	r = over(t, "  a b")
	r.End()
	is(t, r, api.ErrMore, 2, 2)
}

// The first fault stays, whatever comes behind it.
func TestFirstFault(t *testing.T) {
	r := over(t, "a b c")
	r.Next()
	r.Refuse(api.ErrWord)
	is(t, r, api.ErrWord, 2, 2)
	r.Refuse(api.ErrForm)
	r.Mark(",")
	r.Known("x")
	r.Num()
	r.End()
	is(t, r, api.ErrWord, 2, 2)
	if s, ok := r.Name(); s != "b" || !ok {
		t.Errorf("behind a fault it goes on: %q, %v", s, ok)
	}
	r.Next()
	r.Refuse(api.ErrForm)
	is(t, r, api.ErrWord, 2, 0)
}

// A fault at a place of its own: that place stays, behind the last word too.
func TestRefuseAt(t *testing.T) {
	r := over(t, "a b c")
	r.Next()
	r.RefuseAt(api.ErrTwice, 0)
	is(t, r, api.ErrTwice, 0, 2)
	r.RefuseAt(api.ErrLabel, 4)
	r.Refuse(api.ErrForm)
	is(t, r, api.ErrTwice, 0, 2)
	r = over(t, "a")
	r.Next()
	r.RefuseAt(api.ErrTwice, 7)
	is(t, r, api.ErrTwice, 7, 0)
	r = over(t, "a")
	r.Refuse(api.ErrWord)
	r.RefuseAt(api.ErrTwice, 7)
	is(t, r, api.ErrWord, 0, 1)
}

// A name that must stand there is asked for as a mark is.
func TestMarkName(t *testing.T) {
	r := over(t, "exists P0 P1")
	r.Mark("exists")
	r.Mark("P0")
	is(t, r, api.OK, 0, 1)
	r.Mark("P0")
	is(t, r, api.ErrForm, 10, 1)
}
