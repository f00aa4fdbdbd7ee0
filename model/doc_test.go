package model_test

import (
	"strings"
	"testing"

	"belated/api"
)

// The texts of 13.1.
const (
	docInterleavings = `acyclic po | rf | co | fr as order`
	docX86           = `let rfx = rf \ po
let mem = [M] ; po ; [M]
let ppo = (mem \ (W * R)) | [X] ; mem | mem ; [X]
let fence = [M] ; po ; [F] ; po ; [M]
acyclic ppo | fence | rfx | co | fr as order
irreflexive fr ; po as local`
	docWeak = `let rfi = rf & po
let rfx = rf \ po
let mem = [M] ; po ; [M]
let same = (mem & ov) ; [W] | corr
let take = [X] ; rfi
let fence = [R] ; po ; [PR & SR] ; po ; [R] | [R] ; po ; [PR & SW] ; po ; [W]
          | [W] ; po ; [PW & SR] ; po ; [R] | [W] ; po ; [PW & SW] ; po ; [W]
let sync = [A | Q] ; mem | mem ; [L] | [L] ; po ; [A]
let dep = addr | data | ctrl ; [W] | (addr | data) ; rfi | addr ; po ; [W]
let isb = (ctrl | addr ; po) ; [I] ; po ; [R]
acyclic same | take | fence | sync | dep | isb | rfx | co | fr as order
irreflexive fr ; po as local`
)

func docOf(arch int) string {
	switch arch {
	case 0:
		return docInterleavings
	case api.X86:
		return docX86
	}
	return docWeak
}

// without is a text with a piece of it turned to another one.
func without(t *testing.T, text, piece, instead string) string {
	t.Helper()
	if strings.Count(text, piece) != 1 {
		t.Fatalf("%q stands %d times in the text", piece, strings.Count(text, piece))
	}
	return strings.Replace(text, piece, instead, 1)
}
