// Package ask: asks for the words of a text, one by one, and keeps what is wrong with them: see DOC.md, 5.2.
package ask

import (
	"slices"

	"belated/api"
	"belated/scan"
)

const (
	none  = -1
	minus = "-" // ahead of a NUM below 0
)

// Reader goes through words. It keeps the first fault, and may go on: what it
// finds behind that is not told.
type Reader struct {
	*scan.Cursor
	e  api.Errno
	at int
}

// New is a reader ahead of the first of these words.
func New(ts ...api.Token) *Reader {
	return &Reader{Cursor: scan.New(ts...)}
}

// Fault is the first fault, and where it is; OK, if there is none.
func (r *Reader) Fault() (api.Errno, int) {
	return r.e, r.at
}

// Refuse keeps a fault at the next word; behind the last one there is but one.
func (r *Reader) Refuse(e api.Errno) {
	if r.Left() == 0 {
		e = api.ErrEnd
	}
	r.RefuseAt(e, r.At())
}

// RefuseAt keeps a fault at a place.
func (r *Reader) RefuseAt(e api.Errno, at int) {
	if r.e == api.OK {
		r.e, r.at = e, at
	}
}

// End asks for no word more.
func (r *Reader) End() {
	if r.Left() > 0 {
		r.Refuse(api.ErrMore)
	}
}

// Mark asks for a mark, or for a name in whose place no other may stand.
func (r *Reader) Mark(text string) {
	if !r.Take(text) {
		r.Refuse(api.ErrForm)
	}
}

// Known asks for one of these names: which one it is; -1, if it is none.
func (r *Reader) Known(names ...string) int {
	word, _ := r.Peek()
	if word.Kind != api.TokName {
		r.Refuse(api.ErrForm)
		return none
	}
	n := slices.Index(names, word.Text)
	if n < 0 {
		r.Refuse(api.ErrWord)
		return none
	}
	r.Next()
	return n
}

// Num asks for a NUM. If it is none, the fault is behind its `-`.
func (r *Reader) Num() int {
	n, ok := r.Number()
	if !ok {
		r.Take(minus)
		r.Refuse(api.ErrForm)
	}
	return n
}
