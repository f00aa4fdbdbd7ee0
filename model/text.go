package model

import "belated/api"

// The models, as the document writes them.
const (
	interleavings = `acyclic po | rf | co | fr as order
`
	buffered = `let rfx = rf \ po
let mem = [M] ; po ; [M]
let ppo = (mem \ (W * R)) | [X] ; mem | mem ; [X]
let fence = [M] ; po ; [F] ; po ; [M]
acyclic ppo | fence | rfx | co | fr as order
irreflexive fr ; po as local
`
	outOfOrder = `let rfi = rf & po
let rfx = rf \ po
let mem = [M] ; po ; [M]
let same = (mem & ov) ; [W] | corr
let take = [X] ; rfi
let fence = [R] ; po ; [PR & SR] ; po ; [R] | [R] ; po ; [PR & SW] ; po ; [W]
          | [W] ; po ; [PW & SR] ; po ; [R] | [W] ; po ; [PW & SW] ; po ; [W]
let sync = [A | Q] ; mem | mem ; [L] | [L] ; po ; [A]
let dep = addr | data | ctrl ; [W] | (addr | data) ; rfi | addr ; po ; [W]
let isb = (ctrl | addr ; po) ; [I] ; po ; [R]
acyclic same | take | fence | sync | dep | isb | rfx | co | fr as order
irreflexive fr ; po as local
`
)

// Text is an architecture's model; of 0 that of interleavings. What is no
// architecture has none.
func Text(arch int) string {
	switch arch {
	case 0:
		return interleavings
	case api.X86:
		return buffered
	case api.RISCV, api.ARM:
		return outOfOrder
	}
	return ""
}
