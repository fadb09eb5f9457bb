package hawser_test

import (
	"math"
	"slices"
	"strings"
	"testing"
	"unsafe"

	"hawser/api"
	"hawser/hawser"
)

func open(t *testing.T, letters, most int, said ...[2]string) *hawser.Book {
	t.Helper()
	b, e := hawser.New(letters, most)
	if b == nil || e != api.OK {
		t.Fatalf("New(%d, %d): %d", letters, most, e)
	}
	for i, p := range said {
		if n, e := b.Say(p[0], p[1]); n != i || e != api.OK {
			t.Fatalf("Say(%q, %q) = %d, %d, want %d", p[0], p[1], n, e, i)
		}
	}
	return b
}

// noWords: for two letters, most 3.
var noWords = []string{"c", "ac", "abab", "A", " ", "a ", "`", "\x00", "\xff", "á", "ab\n", "日本", strings.Repeat("a", 1<<16)}

func TestP1Closed(t *testing.T) {
	var none *hawser.Book
	for _, b := range []*hawser.Book{none, {}, new(hawser.Book)} {
		for _, w := range append([]string{"", "a"}, noWords...) {
			if n, e := b.Say(w, w); n != 0 || e != api.ErrClosed {
				t.Errorf("Say(%.9q): %d, %d", w, n, e)
			}
			if l, e := b.Least(w); l != "" || e != api.ErrClosed {
				t.Errorf("Least(%.9q): %q, %d", w, l, e)
			}
			if s, e := b.Same(w, w); s || e != api.ErrClosed {
				t.Errorf("Same(%.9q): %v, %d", w, s, e)
			}
			if l, e := b.Why(w, w); len(l) != 0 || e != api.ErrClosed {
				t.Errorf("Why(%.9q): %v, %d", w, l, e)
			}
		}
		if r, n := b.Rules(), b.Count(); len(r) != 0 || n != 0 {
			t.Errorf("Rules, Count: %v, %d", r, n)
		}
	}
}

func TestP1WrongCallsChangeNothing(t *testing.T) {
	said := [][2]string{{"ba", "ab"}, {"bbb", "a"}}
	b := open(t, 2, 3, said...)
	want := answers(b, 2, 3)
	for _, w := range noWords {
		for _, p := range [][2]string{{w, "a"}, {"a", w}, {w, w}, {w, ""}, {"", w}} {
			if n, e := b.Say(p[0], p[1]); n != 0 || e != api.ErrWord {
				t.Errorf("Say(%.9q, %.9q) = %d, %d", p[0], p[1], n, e)
			}
			if s, e := b.Same(p[0], p[1]); s || e != api.ErrWord {
				t.Errorf("Same(%.9q, %.9q) = %v, %d", p[0], p[1], s, e)
			}
		}
		if l, e := b.Least(w); l != "" || e != api.ErrWord {
			t.Errorf("Least(%.9q) = %q, %d", w, l, e)
		}
	}
	if got := answers(b, 2, 3); !slices.Equal(got, want) {
		t.Errorf("after calls that answered errors: %q, want %q", got, want)
	}
	if n, e := b.Say("b", "a"); n != len(said) || e != api.OK {
		t.Errorf("the number after calls that answered errors: %d, %d", n, e)
	}
}

func TestP2NewMemory(t *testing.T) {
	b := open(t, 2, 4, [2]string{"ba", "ab"}, [2]string{"bbb", "a"})
	var held []string
	for range 2 {
		for _, w := range []string{"ab", "ba", "bbb", "a", "bbba", "aaaa"} {
			l, _ := b.Least(w)
			held = append(held, w, l)
			if l == w && len(l) != 0 && unsafe.StringData(l) == unsafe.StringData(w) {
				t.Errorf("Least(%q) answers the memory that it was given", w)
			}
		}
	}
	for i := 1; i < len(held); i += 2 {
		for j := 1; j < i; j += 2 {
			if unsafe.StringData(held[i]) == unsafe.StringData(held[j]) {
				t.Errorf("Least(%q) and Least(%q) answer the same memory", held[i-1], held[j-1])
			}
		}
	}
}

func TestP2KeepsNothingHandedIn(t *testing.T) {
	b := open(t, 2, 4)
	left, right := []byte("bab"), []byte("abb")
	b.Say(unsafe.String(&left[0], len(left)), unsafe.String(&right[0], len(right)))
	want := answers(b, 2, 4)
	copy(left, "aaa")
	copy(right, "bbb")
	if got := answers(b, 2, 4); !slices.Equal(got, want) {
		t.Errorf("after what was handed in changed: %q, want %q", got, want)
	}
}

func TestP2Apart(t *testing.T) {
	one, other := open(t, 2, 4, [2]string{"ba", "ab"}), open(t, 2, 4)
	if n, e := other.Say("bb", ""); n != 0 || e != api.OK {
		t.Errorf("the first pair of another Book: %d, %d", n, e)
	}
	if l, _ := one.Least("bba"); l != "abb" {
		t.Errorf("one: %q", l)
	}
	if l, _ := other.Least("bba"); l != "a" {
		t.Errorf("other: %q", l)
	}
	if x, y := told(one.Rules()), told(other.Rules()); x != "ba=ab" || y != "bb=" {
		t.Errorf("the rules of one: %s, of other: %s", x, y)
	}
}

func TestP2CopyApart(t *testing.T) {
	b := open(t, 3, 4, [2]string{"ccc", "b"}, [2]string{"ba", "ab"})
	want := answers(b, 3, 4)
	c := *b
	c.Say("c", "")
	if got := answers(b, 3, 4); !slices.Equal(got, want) {
		t.Error("a pair that is said to a copy of a Book changes the Book")
	}
}

func TestP2AskingChangesNothing(t *testing.T) {
	n := numbers(7)
	for range 30 {
		asked, quiet := open(t, 3, 4), open(t, 3, 4)
		for i := range api.MaxSaid {
			l, r := n.word(3, 4), n.word(3, 4)
			asked.Least(n.word(3, 4))
			asked.Same(l, r)
			asked.Least("no word")
			answers(asked, 3, 4)
			asked.Why(l, r)
			asked.Rules()
			asked.Count()
			x, _ := asked.Say(l, r)
			y, _ := quiet.Say(l, r)
			if x != i || y != i {
				t.Fatalf("numbers %d and %d, want %d", x, y, i)
			}
		}
		if !slices.Equal(answers(asked, 3, 4), answers(quiet, 3, 4)) {
			t.Fatal("a Book that was asked answers otherwise than one that was not")
		}
	}
}

func TestP3New(t *testing.T) {
	for _, letters := range []int{math.MinInt, -1, 0, 1, 2, 3, 4, 257, math.MaxInt} {
		for _, most := range []int{math.MinInt, -1, 0, 1, 2, 5, 6, 7, 257, math.MaxInt} {
			b, e := hawser.New(letters, most)
			fits := letters >= 1 && letters <= api.MaxLetters && most >= 1 && most <= api.MaxMost
			if fits && (b == nil || e != api.OK) || !fits && (b != nil || e != api.ErrArg) {
				t.Errorf("New(%d, %d): %v, %d", letters, most, b, e)
			}
		}
	}
}

func TestP3NothingSaid(t *testing.T) {
	for letters := 1; letters <= api.MaxLetters; letters++ {
		for most := 1; most <= api.MaxMost; most++ {
			if got := leasts(open(t, letters, most), letters, most); !slices.Equal(got, allWords(letters, most)) {
				t.Errorf("of nothing said, %d letters, most %d: %q", letters, most, got)
			}
		}
	}
}

func TestP3Lengths(t *testing.T) {
	for letters := 1; letters <= api.MaxLetters; letters++ {
		for most := 1; most <= api.MaxMost; most++ {
			b := open(t, letters, most)
			last := string(rune('a' + letters - 1))
			full := strings.Repeat(last, most)
			if n, e := b.Say(full, ""); n != 0 || e != api.OK {
				t.Errorf("%d letters, most %d: Say of most letters: %d, %d", letters, most, n, e)
			}
			if l, e := b.Least(full); l != "" || e != api.OK {
				t.Errorf("%d letters, most %d: Least of most letters: %q, %d", letters, most, l, e)
			}
			for _, w := range []string{full + last, string(rune('a' + letters))} {
				if n, e := b.Say("", w); n != 0 || e != api.ErrWord {
					t.Errorf("%d letters, most %d: Say(%q): %d, %d", letters, most, w, n, e)
				}
				if l, e := b.Least(w); l != "" || e != api.ErrWord {
					t.Errorf("%d letters, most %d: Least(%q): %q, %d", letters, most, w, l, e)
				}
			}
		}
	}
}

func TestP3Many(t *testing.T) {
	b := open(t, 2, 3)
	for i := range api.MaxSaid {
		// One pair again and again, or a word and itself, counts as any other.
		if n, e := b.Say([]string{"ba", "ab"}[i%2], "ab"); n != i || e != api.OK {
			t.Fatalf("the pair %d: %d, %d", i, n, e)
		}
	}
	for range 2 {
		if n, e := b.Say("a", ""); n != 0 || e != api.ErrMany {
			t.Errorf("a pair too many: %d, %d", n, e)
		}
		for _, p := range [][2]string{{"c", ""}, {"", "c"}, {"aaaa", "a"}} {
			if n, e := b.Say(p[0], p[1]); n != 0 || e != api.ErrWord {
				t.Errorf("no word, and a pair too many: %d, %d", n, e)
			}
		}
	}
	if l, e := b.Least("ba"); l != "ab" || e != api.OK {
		t.Errorf("after a pair too many: Least: %q, %d", l, e)
	}
	if s, e := b.Same("a", ""); s || e != api.OK {
		t.Errorf("after a pair too many: Same: %v, %d", s, e)
	}
}

func TestP4Examples(t *testing.T) {
	for _, c := range []struct {
		letters, most int
		said          [][2]string
		least         map[string]string
	}{
		{2, 4, [][2]string{{"ba", "ab"}}, map[string]string{"baba": "aabb", "bab": "abb", "": "", "bbbb": "bbbb"}},
		{1, 6, [][2]string{{"aaaa", ""}, {"aaaaaa", ""}}, map[string]string{"aa": "", "a": "a", "aaaaa": "a"}},
		{2, 3, [][2]string{{"aba", "b"}, {"bab", "a"}}, map[string]string{"aba": "b", "bab": "a", "bb": "bb", "bba": "bba"}},
		{2, 4, [][2]string{{"aba", "b"}, {"bab", "a"}}, map[string]string{"aba": "b", "bab": "a", "bb": "aa", "bba": "aaa"}},
		{1, 1, [][2]string{{"", "a"}}, map[string]string{"a": "", "": ""}},
	} {
		b := open(t, c.letters, c.most, c.said...)
		for w, want := range c.least {
			if got, e := b.Least(w); got != want || e != api.OK {
				t.Errorf("of %v, most %d: Least(%q) = %q, %d, want %q", c.said, c.most, w, got, e, want)
			}
		}
	}
	b := open(t, 1, 6, [2]string{"aaaa", ""}, [2]string{"aaaaaa", ""})
	if s, e := b.Same("a", ""); s || e != api.OK {
		t.Errorf("Same of a and the empty word: %v, %d", s, e)
	}
}

// TestP4Closure: Least and Same against what can be drawn by the document's lines.
func TestP4Closure(t *testing.T) {
	n := numbers(1)
	for letters := 1; letters <= api.MaxLetters; letters++ {
		for most := 1; most <= api.MaxMost; most++ {
			for range 30 {
				sayAndCompare(t, &n, letters, most, most)
				sayAndCompare(t, &n, letters, most, min(most, 3))
			}
		}
	}
}

// sayAndCompare: longest keeps the pairs short, so that many of them act on one another.
func sayAndCompare(t *testing.T, n *numbers, letters, most, longest int) {
	t.Helper()
	said := n.pairs(letters, longest)
	b, c := open(t, letters, most, said...), newClosure(letters, most, said)
	before := c.words[0]
	for _, w := range c.words {
		if got, e := b.Least(w); got != c.least(w) || e != api.OK {
			t.Fatalf("of %q, %d letters, most %d: Least(%q) = %q, %d, want %q", said, letters, most, w, got, e, c.least(w))
		}
		for _, other := range []string{before, c.least(w), n.word(letters, most), w} {
			if got, e := b.Same(w, other); got != (c.least(w) == c.least(other)) || e != api.OK {
				t.Fatalf("of %q, %d letters, most %d: Same(%q, %q) = %v, %d", said, letters, most, w, other, got, e)
			}
		}
		before = w
	}
}
