package cand_test

import (
	"slices"
	"testing"

	"belated/api"
	"belated/cand"
)

// broken is a test, and the brief of what a row comes to that breaks one of
// the conditions of 11.1, and holds to all others.
type broken struct {
	what string
	test api.Test
	want string
}

// alone holds that it would be told without that condition, and is not.
func alone(t *testing.T, letter string, list ...broken) {
	t.Helper()
	has := func(m map[string]api.Run, want string) bool {
		for _, r := range m {
			if brief(r) == want {
				return true
			}
		}
		return false
	}
	for _, x := range list {
		right(t, x.test)
		if !has(candidates(x.test, letter), x.want) || has(candidates(x.test, ""), x.want) {
			t.Errorf("%s: %q does not break (%s) alone", x.what, x.want, letter)
		}
		if got := briefs(cand.Runs(x.test)); slices.Contains(got, x.want) {
			t.Errorf("11.1 (%s): %s: %q is told, among %q", letter, x.what, x.want, got)
		}
	}
}

func TestBreaksA(t *testing.T) {
	// Thread 1 reads y, writes x; thread 0 reads x, and what it does behind hangs on that.
	back := code{load(0, 1), put(0, 1)}
	alone(t, "a",
		broken{"a store's address", with(code{load(0, 0), xor(1, 0), by(1, part(0, 1, put(1, 1)))}, back), "0=1 2=1; 1 3"},
		broken{"a store's datum", with(code{load(0, 0), xor(1, 0), aluImm(api.FnAdd, 2, 1, 1), store(2, 1)}, back), "0=1 2=1; 1 3"},
		broken{"by a move", with(code{load(0, 0), xor(1, 0), alu(api.FnAdd, 2, 1, 7), move(3, 2), store(3, 1)}, back), "0=1 2=7; 1 3"},
		broken{"a swap's datum", with(code{load(0, 0), xor(1, 0), aluImm(api.FnAdd, 2, 1, 1), swap(3, 2, 1)}, back), "0=1 1=0 2=1; 1 3"},
		broken{"a swap's address", with(code{load(0, 0), xor(1, 0), by(1, swap(3, 7, 1))}, back), "0=1 1=0 2=7; 1 3"},
		broken{"what a swap read", with(code{swap(0, 7, 0), xor(1, 0), by(1, part(0, 1, put(1, 1)))}, back), "0=1 2=1; 1 3 0"},
		broken{"a load's address", with(code{load(0, 0), xor(1, 0), by(1, load(2, 1))}, code{put(1, 1), put(0, 1)}), "0=1 1=0; 2 3"},
		broken{"the second of two", with(code{load(3, 2), load(0, 0), alu(api.FnAnd, 1, 3, 0), by(1, part(0, 1, put(1, 1)))}, back), "0=0 1=1 3=1; 2 4"},
	)
}

// (b) gives each byte its source; so no other one is told.
func TestBreaksB(t *testing.T) {
	for _, x := range []broken{
		{"an older one of the own path", with(code{put(0, 1), put(0, 2), load(0, 0)}), "2=1; 0 1"},
		{"Init, behind an own store", with(code{put(0, 1), load(0, 0)}), "1=0; 0"},
		{"what is behind on the own path", with(code{load(0, 0), put(0, 1)}), "0=1; 1"},
		{"an older one of another thread than the own path's", with(code{put(0, 1), load(0, 0)}, code{put(0, 2)}), "1=2; 2 0"},
		{"what it writes itself", with(code{swap(0, 7, 0)}), "0=7; 0"},
		{"what lies between that and its source", with(code{add(0, 7, 0)}, code{put(0, 1)}), "0=0; 1 0"},
		{"what stands behind it in the row", with(code{add(0, 7, 0)}, code{put(0, 1)}), "0=1; 0 1"},
		{"all bytes from one", with(code{put(0, 0x0101), part(0, 1, put(0, 2)), part(0, 2, load(0, 0))}), "2=2; 0 1"},
		{"all bytes from the wider one", with(code{put(0, 0x0101), part(0, 1, put(0, 2)), part(0, 2, load(0, 0))}), "2=257; 0 1"},
		{"bytes of another location", with(code{put(1, 1), load(0, 0)}), "1=1; 0"},
	} {
		right(t, x.test)
		if got := briefs(cand.Runs(x.test)); slices.Contains(got, x.want) {
			t.Errorf("11.1 (b): %s: %q is told, among %q", x.what, x.want, got)
		}
	}
}

func TestBreaksC(t *testing.T) {
	// Thread 1 reads z, and what it writes to x hangs on that.
	back := code{load(0, 2), xor(1, 0), by(1, part(0, 1, put(0, 1)))}
	alone(t, "c",
		broken{"a swap as a source", with(code{swap(0, 7, 0), load(1, 0), store(1, 2)}, code{load(0, 2), store(0, 0)}), "0=7 1=7 3=7; 2 4 0"},
		broken{"a sum", with(code{add(0, 7, 0), part(0, 1, load(1, 0)), xor(1, 1), by(1, part(0, 1, put(2, 1)))}, back), "0=1 1=8 3=1; 2 4 0"},
		broken{"a source's datum", with(code{load(0, 0), store(0, 1), load(1, 1), xor(2, 1), by(2, part(0, 1, put(2, 1)))}, back), "0=1 2=1 4=1; 3 5 1"},
		broken{"a source's address", with(code{load(0, 0), xor(3, 0), by(3, put(1, 1)), load(1, 1), xor(2, 1), by(2, part(0, 1, put(2, 1)))}, back), "0=1 2=1 4=1; 3 5 1"},
		broken{"of one byte alone", with(code{load(0, 0), part(3, 1, store(0, 1)), part(2, 2, load(1, 1)), xor(2, 1), by(2, part(0, 1, put(2, 1)))}, back), "0=1 2=256 4=1; 3 5 1"},
	)
}

func TestBreaksD(t *testing.T) {
	alone(t, "d",
		broken{"a load", with(code{load(0, 0), put(0, 1)}), "0=1; 1"},
		broken{"a store", with(code{put(0, 1), put(0, 2)}), "; 1 0"},
		broken{"a store ahead of a swap", with(code{put(0, 1), swap(0, 7, 0)}), "1=1; 1 0"},
		broken{"a swap ahead of a store", with(code{swap(0, 7, 0), put(0, 1)}), "0=1; 1 0"},
		broken{"a load ahead of a swap", with(code{load(0, 0), swap(1, 7, 0)}), "0=7 1=0; 1"},
		broken{"one byte that meets", with(code{part(3, 1, put(0, 1)), put(0, 0)}), "; 1 0"},
		broken{"one byte within", with(code{put(0, 0), part(3, 1, put(0, 1))}), "; 1 0"},
		broken{"a load of one byte", with(code{part(6, 2, load(0, 0)), part(7, 1, put(0, 1))}), "0=256; 1"},
		broken{"by an Index", with(code{load(1, 1), by(1, part(0, 1, load(0, 0))), part(3, 1, put(0, 1))}, code{put(1, 3)}), "0=3 1=1; 3 2"},
		broken{"of a store by an Index", with(code{load(1, 1), by(1, part(0, 1, put(0, 5))), part(3, 1, put(0, 1))}, code{put(1, 3)}), "0=3; 3 2 1"},
	)
}

func TestBreaksE(t *testing.T) {
	other := code{put(0, 1)}
	alone(t, "e",
		broken{"on, where it goes to To", with(code{load(0, 0), ifZero(0, 3), put(1, 1)}), "0=0; 1"},
		broken{"to To, where it goes on", with(code{load(0, 0), ifZero(0, 3), put(1, 1)}, other), "0=1; 1"},
		broken{"unless: on", with(code{load(0, 0), unless(0, 3), put(1, 1)}, other), "0=1; 1 2"},
		broken{"unless: to To", with(code{load(0, 0), unless(0, 3), put(1, 1)}), "0=0; "},
		broken{"a constant", with(code{ifZero(7, 2), put(1, 1)}), "; "},
		broken{"the second one", with(code{load(0, 0), ifZero(7, 3), put(1, 1), ifZero(0, 5), put(2, 1)}), "0=0; 1 2"},
		broken{"of the last thread", with(nil, other, code{load(0, 0), ifZero(0, 3), put(1, 1)}), "1=0; 0 2"},
	)
}
