package hawser_test

import "hawser/hawser"

// closure: which words are the same, found from the document's lines alone, without any rule.
type closure struct {
	words []string // the least first
	place map[string]int
	up    []int // a less word that is the same, or the word itself
}

func allWords(letters, most int) []string {
	all := []string{""}
	for from, n := 0, 0; n < most; n++ {
		to := len(all)
		for _, w := range all[from:to] {
			for i := range letters {
				all = append(all, w+string(rune('a'+i)))
			}
		}
		from = to
	}
	return all
}

func newClosure(letters, most int, said [][2]string) *closure {
	c := &closure{words: allWords(letters, most), place: map[string]int{}}
	for i, w := range c.words {
		c.place[w] = i
		c.up = append(c.up, i)
	}
	for _, p := range said {
		c.join(p[0], p[1])
	}
	// Each word against the least of its kind is enough: that one is no longer, so it fits wherever the word does.
	for changed := true; changed; {
		changed = false
		for _, w := range c.words {
			l := c.least(w)
			for i := range letters {
				x := string(rune('a' + i))
				if len(w) < most && l != w && (c.join(x+w, x+l) || c.join(w+x, l+x)) {
					changed = true
				}
			}
		}
	}
	return c
}

func (c *closure) root(i int) int {
	for c.up[i] != i {
		i = c.up[i]
	}
	return i
}

func (c *closure) least(word string) string { return c.words[c.root(c.place[word])] }

func (c *closure) join(one, other string) bool {
	i, j := c.root(c.place[one]), c.root(c.place[other])
	c.up[max(i, j)] = min(i, j)
	return i != j
}

// numbers: the same ones each time.
type numbers uint64

func (n *numbers) below(limit int) int {
	*n = *n*6364136223846793005 + 1442695040888963407
	return int(uint64(*n) >> 33 % uint64(limit))
}

func (n *numbers) word(letters, most int) string {
	w := make([]byte, n.below(most+1))
	for i := range w {
		w[i] = byte('a' + n.below(letters))
	}
	return string(w)
}

// answers: all that a Book tells of its words.
func answers(b *hawser.Book, letters, most int) []string {
	var all []string
	for _, w := range allWords(letters, most) {
		l, _ := b.Least(w)
		all = append(all, l)
	}
	return all
}
