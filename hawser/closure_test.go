package hawser_test

import (
	"strconv"
	"strings"

	"hawser/api"
	"hawser/hawser"
)

// closure: which words are the same, found from the document's lines alone, without any rule.
type closure struct {
	words []string // the least first
	place map[string]int
	up    []int // a less word that is the same, or the word itself
}

func allWords(letters, most int) []string {
	all := []string{""}
	for from, n := 0, 0; n < most; n++ {
		to := len(all)
		for _, w := range all[from:to] {
			for i := range letters {
				all = append(all, w+string(rune('a'+i)))
			}
		}
		from = to
	}
	return all
}

func newClosure(letters, most int, said [][2]string) *closure {
	c := &closure{words: allWords(letters, most), place: map[string]int{}}
	for i, w := range c.words {
		c.place[w] = i
		c.up = append(c.up, i)
	}
	for _, p := range said {
		c.join(p[0], p[1])
	}
	// Each word against the least of its kind is enough: that one is no longer, so it fits wherever the word does.
	for changed := true; changed; {
		changed = false
		for _, w := range c.words {
			l := c.least(w)
			for i := range letters {
				x := string(rune('a' + i))
				if len(w) < most && l != w && (c.join(x+w, x+l) || c.join(w+x, l+x)) {
					changed = true
				}
			}
		}
	}
	return c
}

func (c *closure) root(i int) int {
	for c.up[i] != i {
		i = c.up[i]
	}
	return i
}

func (c *closure) least(word string) string { return c.words[c.root(c.place[word])] }

// kind: all words that are the same as a word.
func (c *closure) kind(word string) []string {
	var all []string
	for _, w := range c.words {
		if c.least(w) == c.least(word) {
			all = append(all, w)
		}
	}
	return all
}

func (c *closure) join(one, other string) bool {
	i, j := c.root(c.place[one]), c.root(c.place[other])
	c.up[max(i, j)] = min(i, j)
	return i != j
}

// rules: by the document's words: from each word that is not least, while all its shorter parts are.
func (c *closure) rules() []api.Rule {
	var all []api.Rule
	for _, w := range c.words {
		if c.least(w) != w && c.partsLeast(w) {
			all = append(all, api.Rule{From: w, To: c.least(w)})
		}
	}
	return all
}

func (c *closure) partsLeast(word string) bool {
	for from := range len(word) {
		for to := from; to <= len(word); to++ {
			if part := word[from:to]; len(part) < len(word) && c.least(part) != part {
				return false
			}
		}
	}
	return true
}

func (c *closure) count() int {
	n := 0
	for _, w := range c.words {
		if c.least(w) == w {
			n++
		}
	}
	return n
}

// numbers: the same ones each time.
type numbers uint64

func (n *numbers) below(limit int) int {
	*n = *n*6364136223846793005 + 1442695040888963407
	return int(uint64(*n) >> 33 % uint64(limit))
}

func (n *numbers) word(letters, most int) string {
	w := make([]byte, n.below(most+1))
	for i := range w {
		w[i] = byte('a' + n.below(letters))
	}
	return string(w)
}

// pairs: some pairs of words of at most so many letters.
func (n *numbers) pairs(letters, longest int) [][2]string {
	var all [][2]string
	for range 1 + n.below(api.MaxSaid) {
		all = append(all, [2]string{n.word(letters, longest), n.word(letters, longest)})
	}
	return all
}

// told: rules as words (ba=ab aa=).
func told(l []api.Rule) string {
	var all []string
	for _, r := range l {
		all = append(all, r.From+"="+r.To)
	}
	return strings.Join(all, " ")
}

// answers: all that a Book tells.
func answers(b *hawser.Book, letters, most int) []string {
	return append(leasts(b, letters, most), told(b.Rules()), strconv.Itoa(b.Count()))
}

func leasts(b *hawser.Book, letters, most int) []string {
	var all []string
	for _, w := range allWords(letters, most) {
		l, _ := b.Least(w)
		all = append(all, l)
	}
	return all
}
