// Package draw: how it is drawn, line by line, that two words are the same.
package draw

import (
	"hawser/api"
	"hawser/queue"
	"hawser/words"
)

// Pair is two words that are said to be the same.
type Pair struct {
	Left, Right string
}

// kind is words that are the same by the lines that are drawn.
type kind struct {
	words []string
	least string
}

// place is where a word stands: in its kind, by a line that says it of the word and of one that all words of the kind have as their line's Right.
type place struct {
	kind *kind
	line int
}

type drawing struct {
	sheet
	letters, most int
	places        map[string]place
	waits         *queue.Queue[string] // words that are no longer the least of their kind, and are still to be put within letters
}

// Lines tells lines by which two words are the same, the last of which says so; none, if they are not.
//
// They are fewer than half of MaxLines. A word comes to another kind only when its own is the smaller one of two: so each of at most 1093 words does that at most 10 times, by at most 3 lines. And at most 6 lines more are drawn for each word: one that says it of the word and itself, and, once only, when it is no longer the least of its kind, 3 that make one kind of two, and 2 ahead of putting it within letters.
func Lines(said []Pair, letters int, most int, one string, other string) []api.Line {
	d := begin(letters, most)
	for i, pair := range said {
		if d.apart(pair.Left, pair.Right) {
			d.join(d.said(i, pair))
		}
	}
	for d.apart(one, other) {
		word, ok := d.waits.Take()
		if !ok {
			return nil
		}
		d.spread(word)
	}
	return d.tell(d.between(one, other))
}

func begin(letters int, most int) *drawing {
	less := func(one string, other string) bool { return words.Compare(one, other) < 0 }
	return &drawing{
		sheet:   sheet{backs: map[int]int{}},
		letters: letters,
		most:    most,
		places:  map[string]place{},
		waits:   queue.New(less),
	}
}

// at tells where a word stands: in a kind of its own, if no line has been drawn of it.
func (d *drawing) at(word string) place {
	found, ok := d.places[word]
	if !ok {
		found = place{&kind{words: []string{word}, least: word}, d.self(word)}
		d.places[word] = found
	}
	return found
}

func (d *drawing) apart(one string, other string) bool {
	return d.at(one).kind != d.at(other).kind
}

// between draws that two words of one kind are the same.
func (d *drawing) between(one string, other string) int {
	return d.meet(d.at(one).line, d.at(other).line)
}

// spread puts a word, and the least of its kind, within each letter. Once for each word is enough, since the least one, when it is no longer so, is spread too; and it may stand wherever the word may, since it is no longer than that.
func (d *drawing) spread(word string) {
	line := d.between(word, d.at(word).kind.least)
	for letter := range d.letters {
		text := string(rune('a' + letter))
		d.put(line, "", text)
		d.put(line, text, "")
	}
}

func (d *drawing) put(line int, ahead string, behind string) {
	left, right := d.lines[line].Left, d.lines[line].Right
	if d.apart(ahead+left+behind, ahead+right+behind) {
		d.join(d.within(line, ahead, behind))
	}
}

// join makes one kind of the two that a line says it of. The words of the smaller one come to the other one, so that no word is often drawn anew.
func (d *drawing) join(line int) {
	one, other := d.at(d.lines[line].Left), d.at(d.lines[line].Right)
	if len(one.kind.words) > len(other.kind.words) {
		line, one, other = d.back(line), other, one
	}
	end := d.then(line, other.line)
	for _, word := range one.kind.words {
		d.places[word] = place{other.kind, d.then(d.meet(d.at(word).line, one.line), end)}
	}
	other.kind.words = append(other.kind.words, one.kind.words...)
	// A word of most letters can not be put within more.
	if lost := other.kind.lessen(one.kind.least); len(lost) < d.most {
		d.waits.Put(lost)
	}
}

// lessen takes in the least word of another kind, and tells which of both least words no longer is it.
func (k *kind) lessen(least string) string {
	if words.Compare(least, k.least) < 0 {
		least, k.least = k.least, least
	}
	return least
}
