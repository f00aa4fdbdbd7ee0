package scan

import (
	"slices"

	"belated/api"
)

// Cursor goes through words.
type Cursor struct {
	words []api.Token
	next  int
}

// New is a cursor ahead of the first of these words.
func New(ts ...api.Token) *Cursor {
	return &Cursor{words: slices.Clone(ts)}
}

// Peek is the next word; false behind the last one.
func (c *Cursor) Peek() (api.Token, bool) {
	return c.ahead(0)
}

// Next is the next word, and goes past it.
func (c *Cursor) Next() (api.Token, bool) {
	word, ok := c.Peek()
	if ok {
		c.next++
	}
	return word, ok
}

// Take goes past words with these texts, if they are the next ones and none
// is a number.
func (c *Cursor) Take(marks ...string) bool {
	for i, text := range marks {
		word, ok := c.ahead(i)
		if !ok || word.Kind == api.TokNumber || word.Text != text {
			return false
		}
	}
	c.next += len(marks)
	return true
}

// Name goes past a name, and is its text.
func (c *Cursor) Name() (string, bool) {
	word, ok := c.Peek()
	if !ok || word.Kind != api.TokName {
		return "", false
	}
	c.next++
	return word.Text, true
}

// Number goes past a number, and is its value; a mark `-` may stand ahead.
func (c *Cursor) Number() (int, bool) {
	word, ok := c.Peek()
	if ok && word.Kind == api.TokMark && word.Text == minus {
		n, ok := c.numberAhead(1)
		return -n, ok
	}
	return c.numberAhead(0)
}

// numberAhead goes past the number behind the next i words, and past these.
func (c *Cursor) numberAhead(i int) (int, bool) {
	word, ok := c.ahead(i)
	if !ok || word.Kind != api.TokNumber {
		return 0, false
	}
	c.next += i + 1
	return word.N, true
}

// At is where the next word begins, or where the last one ends.
func (c *Cursor) At() int {
	if word, ok := c.Peek(); ok {
		return word.At
	}
	if len(c.words) == 0 {
		return 0
	}
	last := c.words[len(c.words)-1]
	return last.At + len(last.Text)
}

// Left is how many words are ahead.
func (c *Cursor) Left() int {
	return len(c.words) - c.next
}

// ahead is the word behind the next i ones.
func (c *Cursor) ahead(i int) (api.Token, bool) {
	if i >= c.Left() {
		return api.Token{}, false
	}
	return c.words[c.next+i], true
}
