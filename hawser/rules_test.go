package hawser_test

import (
	"slices"
	"strings"
	"testing"
	"unsafe"

	"hawser/api"
	"hawser/hawser"
)

// split: pairs out of words (ba=ab aa=).
func split(said string) [][2]string {
	var all [][2]string
	for _, s := range strings.Fields(said) {
		left, right, _ := strings.Cut(s, "=")
		all = append(all, [2]string{left, right})
	}
	return all
}

// eachSaid: many lists of pairs, of all letters and mosts; short pairs too, so that many of them act on one another.
func eachSaid(seed int, look func(n *numbers, letters, most int, said [][2]string)) {
	n := numbers(seed)
	for letters := 1; letters <= api.MaxLetters; letters++ {
		for most := 1; most <= api.MaxMost; most++ {
			for range 20 {
				look(&n, letters, most, n.pairs(letters, most))
				look(&n, letters, most, n.pairs(letters, min(most, 3)))
			}
		}
	}
}

func TestP5P6Examples(t *testing.T) {
	for _, c := range []struct {
		letters, most int
		said, rules   string
		count         int
	}{
		{2, 4, "ba=ab", "ba=ab", 15},
		{1, 6, "aaaa= aaaaaa=", "aa=", 2},
		{2, 3, "aba=b bab=a", "aba=b bab=a", 13},
		{2, 4, "aba=b bab=a", "bb=aa aba=b baa=aab bab=a aaab=ba", 9},
		// Words of just most letters.
		{2, 4, "bbbb=aaaa", "bbbb=aaaa", 30},
		{2, 4, "aaaa=bbbb abab=", "abab= bbbb=aaaa", 29},
		{3, 6, "cccccc=", "cccccc=", 1092},
		{1, 1, "=a", "a=", 1},
		// Shorter From's come first, whatever their letters are.
		{3, 3, "aaa= bb= c=b", "c=b bb= aaa=", 10},
	} {
		b := open(t, c.letters, c.most, split(c.said)...)
		if got, n := told(b.Rules()), b.Count(); got != c.rules || n != c.count {
			t.Errorf("of %s, most %d: %s, Count %d, want %s, %d", c.said, c.most, got, n, c.rules, c.count)
		}
	}
}

func TestP5P6NothingSaid(t *testing.T) {
	for letters := 1; letters <= api.MaxLetters; letters++ {
		for most := 1; most <= api.MaxMost; most++ {
			all := allWords(letters, most)
			b := open(t, letters, most)
			if l, n := b.Rules(), b.Count(); len(l) != 0 || n != len(all) {
				t.Errorf("of nothing said, %d letters, most %d: %s, Count %d, want %d", letters, most, told(l), n, len(all))
			}
			// A word and itself, the longest ones too: nothing more is the same.
			b = open(t, letters, most, [2]string{"", ""}, [2]string{"a", "a"}, [2]string{all[len(all)-1], all[len(all)-1]})
			if l, n := b.Rules(), b.Count(); len(l) != 0 || n != len(all) {
				t.Errorf("of words and themselves, %d letters, most %d: %s, Count %d, want %d", letters, most, told(l), n, len(all))
			}
		}
	}
}

// TestP5P6Closure: Rules and Count against what can be drawn by the document's lines.
func TestP5P6Closure(t *testing.T) {
	eachSaid(2, func(n *numbers, letters, most int, said [][2]string) {
		b, c := open(t, letters, most, said...), newClosure(letters, most, said)
		if got := b.Rules(); !slices.Equal(got, c.rules()) {
			t.Fatalf("of %q, %d letters, most %d: %s, want %s", said, letters, most, told(got), told(c.rules()))
		}
		if got := b.Count(); got != c.count() {
			t.Fatalf("of %q, %d letters, most %d: Count %d, want %d", said, letters, most, got, c.count())
		}
	})
}

func TestP5P6AnyOrder(t *testing.T) {
	eachSaid(3, func(n *numbers, letters, most int, said [][2]string) {
		want := answers(open(t, letters, most, said...), letters, most)
		var other [][2]string
		for _, p := range said {
			other = slices.Insert(other, n.below(len(other)+1), [2]string{p[1], p[0]})
		}
		if got := answers(open(t, letters, most, other...), letters, most); !slices.Equal(got, want) {
			t.Fatalf("of %q: %q, and of %q: %q", said, want, other, got)
		}
	})
}

// TestP5P6Following: a pair that follows from what was said changes neither the rules nor the count.
func TestP5P6Following(t *testing.T) {
	eachSaid(4, func(n *numbers, letters, most int, said [][2]string) {
		said = said[:min(len(said), api.MaxSaid-4)]
		b := open(t, letters, most, said...)
		rules, count := told(b.Rules()), b.Count()
		word := n.word(letters, most)
		least, _ := b.Least(word)
		for _, p := range [][2]string{said[0], {said[0][1], said[0][0]}, {word, least}, {word, word}} {
			if _, e := b.Say(p[0], p[1]); e != api.OK {
				t.Fatalf("Say(%q, %q): %d", p[0], p[1], e)
			}
			if l, n := told(b.Rules()), b.Count(); l != rules || n != count {
				t.Fatalf("of %q, and %q, which follows: %s, Count %d, want %s, %d", said, p, l, n, rules, count)
			}
		}
	})
}

func TestP5P6AfterErrors(t *testing.T) {
	b := open(t, 2, 3, split("ba=ab bbb=a")...)
	rules, count := told(b.Rules()), b.Count()
	for _, w := range noWords {
		b.Say(w, "")
		b.Say("", w)
	}
	for range api.MaxSaid - 2 {
		b.Say("ab", "ba")
	}
	if _, e := b.Say("a", ""); e != api.ErrMany {
		t.Fatalf("a pair too many: %d", e)
	}
	if l, n := told(b.Rules()), b.Count(); l != rules || n != count {
		t.Errorf("after errors: %s, Count %d, want %s, %d", l, n, rules, count)
	}
}

func TestP1RulesCountClosed(t *testing.T) {
	var none *hawser.Book
	wrong, _ := hawser.New(0, 1)
	said := &hawser.Book{}
	said.Say("a", "")
	for _, b := range []*hawser.Book{none, wrong, {}, said} {
		if l, n := b.Rules(), b.Count(); len(l) != 0 || n != 0 {
			t.Errorf("of a Book that New did not make: %s, Count %d", told(l), n)
		}
	}
}

func TestP2RulesWrittenOver(t *testing.T) {
	b := open(t, 3, 4, split("ccc=b ba=ab cb=")...)
	want, list, other := answers(b, 3, 4), b.Rules(), b.Rules()
	// What comes after the list's end may be written over too.
	list = list[:cap(list)]
	for i := range list {
		list[i] = api.Rule{From: "b", To: "mine"}
	}
	if got := answers(b, 3, 4); !slices.Equal(got, want) {
		t.Errorf("after a list was written over: %q, want %q", got, want)
	}
	if !slices.Equal(other, b.Rules()) {
		t.Errorf("another list that came out is written over too: %s", told(other))
	}
	b.Say("", "")
	if got := answers(b, 3, 4); !slices.Equal(got, want) {
		t.Errorf("of a pair more, after a list was written over: %q, want %q", got, want)
	}
}

func TestP2RulesNewMemory(t *testing.T) {
	b := open(t, 3, 6, split("ccccc=bbbb baab=abba bcb=ab")...)
	seen := map[*byte]string{}
	for range 3 {
		for _, r := range b.Rules() {
			for _, text := range []string{r.From, r.To} {
				for i := range len(text) {
					at := (*byte)(unsafe.Add(unsafe.Pointer(unsafe.StringData(text)), i))
					if other, ok := seen[at]; ok {
						t.Fatalf("%q and %q, which came out, share memory", other, text)
					}
					seen[at] = text
				}
			}
		}
	}
}

func TestP2ListIsAsItWas(t *testing.T) {
	b := open(t, 3, 4, split("ccc=b ba=ab")...)
	list := b.Rules()
	before := told(list)
	b.Say("c", "")
	b.Say("b", "a")
	if got := told(list); got != before {
		t.Errorf("a list that came out was %s and is %s", before, got)
	}
}

func TestP8(t *testing.T) {
	eachSaid(5, func(n *numbers, letters, most int, said [][2]string) {
		b, c := open(t, letters, most, said...), newClosure(letters, most, said)
		rules := b.Rules()
		for i, r := range rules {
			for j, other := range rules {
				if i != j && strings.Contains(other.From, r.From) {
					t.Fatalf("of %q, most %d: %q stands in %q", said, most, r.From, other.From)
				}
			}
			if c.least(r.To) != r.To {
				t.Fatalf("of %q, most %d: %q to %q, which is not least", said, most, r.From, r.To)
			}
		}
		for _, w := range c.words {
			turned := turns(w, rules)
			if (len(turned) == 0) != (c.least(w) == w) {
				t.Fatalf("of %q, most %d: %q may be turned into %q, and the least is %q", said, most, w, turned, c.least(w))
			}
			// Each step ends at a less word with the same least one: so all ways end there.
			for _, v := range turned {
				if c.place[v] >= c.place[w] || c.least(v) != c.least(w) {
					t.Fatalf("of %q, most %d: %q may be turned into %q, and the least is %q", said, most, w, v, c.least(w))
				}
			}
		}
	})
}

// turns: all that one rule, used once, makes of a word.
func turns(word string, rules []api.Rule) []string {
	var all []string
	for _, r := range rules {
		for at := range len(word) {
			if strings.HasPrefix(word[at:], r.From) {
				all = append(all, word[:at]+r.To+word[at+len(r.From):])
			}
		}
	}
	return all
}
