// Package hawser: words that may be turned into one another, and the least of those that may: see DOC.md.
package hawser

import (
	"slices"
	"strings"

	"hawser/api"
	"hawser/draw"
	"hawser/rules"
	"hawser/words"
)

// Book is pairs of words that are said.
type Book struct {
	letters int // 0 in a Book that New did not make
	most    int
	// Neither list is ever written to, so that a copy of a Book is a Book of its own.
	said  []draw.Pair
	rules []api.Rule // of all that is said, the one with the least From first
}

// New makes a Book (P3).
func New(letters int, most int) (*Book, api.Errno) {
	if letters < 1 || letters > api.MaxLetters || most < 1 || most > api.MaxMost {
		return nil, api.ErrArg
	}
	return &Book{letters: letters, most: most}, api.OK
}

// Say says a pair (P3).
func (b *Book) Say(left string, right string) (int, api.Errno) {
	if e := b.check(left, right); e != api.OK {
		return 0, e
	}
	if len(b.said) >= api.MaxSaid {
		return 0, api.ErrMany
	}
	// Rules are made of pieces of these words too, and what is handed in is not to be kept.
	pair := draw.Pair{Left: strings.Clone(left), Right: strings.Clone(right)}
	b.rules = rules.Learn(b.rules, pair.Left, pair.Right, b.most)
	b.said = slices.Concat(b.said, []draw.Pair{pair})
	return len(b.said) - 1, api.OK
}

// Least tells the least word that is the same (P4).
func (b *Book) Least(word string) (string, api.Errno) {
	if e := b.check(word); e != api.OK {
		return "", e
	}
	// A word that no rule turns is still the caller's own memory.
	return strings.Clone(rules.Turn(word, b.rules)), api.OK
}

// Same tells whether two words are the same (P4).
func (b *Book) Same(one string, other string) (bool, api.Errno) {
	if e := b.check(one, other); e != api.OK {
		return false, e
	}
	return rules.Turn(one, b.rules) == rules.Turn(other, b.rules), api.OK
}

// Rules tells the rules (P5).
func (b *Book) Rules() []api.Rule {
	if b.closed() {
		return nil
	}
	told := make([]api.Rule, len(b.rules))
	for i, r := range b.rules {
		told[i] = api.Rule{From: strings.Clone(r.From), To: strings.Clone(r.To)}
	}
	return told
}

// Count tells how many words are least (P6).
func (b *Book) Count() int {
	if b.closed() {
		return 0
	}
	return rules.Count(b.rules, b.letters, b.most)
}

// Why tells how it is drawn that two words are the same (P7).
func (b *Book) Why(one string, other string) ([]api.Line, api.Errno) {
	if e := b.check(one, other); e != api.OK {
		return nil, e
	}
	lines := draw.Lines(b.said, b.letters, b.most, one, other)
	if len(lines) == 0 {
		return nil, api.ErrNone
	}
	return lines, api.OK
}

func (b *Book) closed() bool { return b == nil || b.letters == 0 }

// check tells what is wrong with a Book or with the texts that it is given.
func (b *Book) check(texts ...string) api.Errno {
	if b.closed() {
		return api.ErrClosed
	}
	for _, text := range texts {
		if !words.Is(text, b.letters, b.most) {
			return api.ErrWord
		}
	}
	return api.OK
}
