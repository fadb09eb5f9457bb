// Package words: what is a word, and how two words stand to each other.
package words

import (
	"cmp"
	"strings"
)

// Standing is how two words stand to each other, where the greater one should come first.
type Standing int

const (
	Alike Standing = iota
	Wrong          // the less one comes first
	Right          // the greater one comes first
)

// Is tells whether a text is a word of so many letters, with at most so many of them.
func Is(text string, letters int, most int) bool {
	// The length first: a text of any size is then judged at once.
	if len(text) > most {
		return false
	}
	for i := range len(text) {
		if text[i] < 'a' || int(text[i]) >= 'a'+letters {
			return false
		}
	}
	return true
}

// Compare tells which of two words is less: -1, if it is the one, 1, if it is the other, and 0, if they are alike.
func Compare(one string, other string) int {
	return cmp.Or(cmp.Compare(len(one), len(other)), strings.Compare(one, other))
}

// Stand tells how two words stand to each other.
func Stand(one string, other string) Standing {
	switch Compare(one, other) {
	case 0:
		return Alike
	case -1:
		return Wrong
	}
	return Right
}
