package hawser_test

import (
	"slices"
	"strings"
	"testing"
	"unsafe"

	"hawser/api"
	"hawser/hawser"
)

// drawn: what is wrong with lines, by the document's words; nothing, if they say it of the two words.
func drawn(lines []api.Line, letters, most int, said [][2]string, one, other string) string {
	if len(lines) == 0 || len(lines) > api.MaxLines {
		return "too few lines, or too many"
	}
	if last := lines[len(lines)-1]; last.Left != one || last.Right != other {
		return "the last line does not say it of the two words"
	}
	for i, l := range lines {
		if !isWord(l.Left, letters, most) || !isWord(l.Right, letters, most) {
			return "no words: " + l.Left + " and " + l.Right
		}
		if want, ok := redrawn(l, lines[:i], said); !ok || l != want {
			return "not drawn: " + l.Left + " and " + l.Right
		}
	}
	return ""
}

func isWord(text string, letters, most int) bool {
	return len(text) <= most && strings.Trim(text, "abc"[:letters]) == ""
}

// redrawn: a line anew, of nothing but what its How speaks of; false, if it is of pairs or lines that there are none of.
func redrawn(l api.Line, ahead []api.Line, said [][2]string) (api.Line, bool) {
	isAhead := func(number int) bool { return number >= 0 && number < len(ahead) }
	switch {
	case l.How == api.Self:
		return api.Line{How: api.Self, Left: l.Left, Right: l.Left}, true
	case l.How == api.Said && l.Said >= 0 && l.Said < len(said):
		return api.Line{How: api.Said, Left: said[l.Said][0], Right: said[l.Said][1], Said: l.Said}, true
	case l.How == api.Back && isAhead(l.A):
		return api.Line{How: api.Back, Left: ahead[l.A].Right, Right: ahead[l.A].Left, A: l.A}, true
	case l.How == api.Then && isAhead(l.A) && isAhead(l.B):
		return api.Line{How: api.Then, Left: ahead[l.A].Left, Right: ahead[l.B].Right, A: l.A, B: l.B}, ahead[l.A].Right == ahead[l.B].Left
	case l.How == api.Within && isAhead(l.A):
		return api.Line{How: api.Within, Left: l.Ahead + ahead[l.A].Left + l.Behind, Right: l.Ahead + ahead[l.A].Right + l.Behind, A: l.A, Ahead: l.Ahead, Behind: l.Behind}, true
	}
	return api.Line{}, false
}

// whys: for each word, its lines to the least one that is the same.
func whys(b *hawser.Book, letters, most int) [][]api.Line {
	var all [][]api.Line
	for _, w := range allWords(letters, most) {
		least, _ := b.Least(w)
		lines, _ := b.Why(w, least)
		all = append(all, lines)
	}
	return all
}

func alike(one, other [][]api.Line) bool {
	return slices.EqualFunc(one, other, slices.Equal[[]api.Line])
}

// TestDrawnSees: lines that are not drawn are seen, each for its own reason.
func TestDrawnSees(t *testing.T) {
	said := split("ba=ab a=")
	right := []api.Line{
		{How: api.Said, Left: "ba", Right: "ab"},
		{How: api.Said, Left: "a", Right: "", Said: 1},
		{How: api.Within, Left: "ab", Right: "b", A: 1, Behind: "b"},
		{How: api.Then, Left: "ba", Right: "b", A: 0, B: 2},
		{How: api.Back, Left: "b", Right: "ba", A: 3},
	}
	if wrong := drawn(right, 2, 2, said, "b", "ba"); wrong != "" {
		t.Fatal(wrong)
	}
	for _, c := range []struct {
		number int
		change func(l *api.Line)
	}{
		{0, func(l *api.Line) { l.Said = 1 }},
		{0, func(l *api.Line) { l.Said = 2 }},
		{0, func(l *api.Line) { l.Said = -1 }},
		{0, func(l *api.Line) { l.How = api.Self }},
		{0, func(l *api.Line) { l.How = 5 }},
		{0, func(l *api.Line) { l.Left, l.Right = l.Right, l.Left }},
		{1, func(l *api.Line) { l.A = 1 }},
		{2, func(l *api.Line) { l.A = 2 }},
		{2, func(l *api.Line) { l.Ahead = "b" }},
		{2, func(l *api.Line) { l.Said = 1 }},
		{3, func(l *api.Line) { l.B = 1 }},
		{3, func(l *api.Line) { l.A = 1 }},
		{3, func(l *api.Line) { l.Behind = "b" }},
		{4, func(l *api.Line) { l.A = 4 }},
		{4, func(l *api.Line) { l.B = 1 }},
		{4, func(l *api.Line) { l.Right = "b" }},
	} {
		lines := slices.Clone(right)
		c.change(&lines[c.number])
		if drawn(lines, 2, 2, said, "b", "ba") == "" {
			t.Errorf("not seen: %+v", lines[c.number])
		}
	}
	if drawn(right, 2, 1, said, "b", "ba") == "" || drawn(right, 1, 2, said, "b", "ba") == "" || drawn(right, 2, 2, said, "ba", "b") == "" || drawn(nil, 2, 2, said, "b", "ba") == "" {
		t.Error("not seen: no words, or other words than were asked, or no lines")
	}
}

func TestP7FirstExample(t *testing.T) {
	b := open(t, 2, 4, split("ba=ab")...)
	want := []api.Line{
		{How: api.Said, Left: "ba", Right: "ab", Said: 0},
		{How: api.Within, Left: "bab", Right: "abb", A: 0, Ahead: "", Behind: "b"},
	}
	if got, e := b.Why("bab", "abb"); !slices.Equal(got, want) || e != api.OK {
		t.Errorf("%+v, %d, want %+v", got, e, want)
	}
}

func TestP7Examples(t *testing.T) {
	for _, c := range []struct {
		letters, most int
		said          string
		one, other    string
		want          api.Errno
	}{
		{2, 4, "ba=ab", "bab", "abb", api.OK},
		{2, 4, "ba=ab", "abb", "bab", api.OK},
		{2, 4, "ba=ab", "baba", "aabb", api.OK},
		{2, 4, "ba=ab", "abab", "baba", api.OK},
		{2, 4, "ba=ab", "ba", "ab", api.OK},
		{2, 4, "ba=ab", "ab", "ba", api.OK},
		{2, 4, "ba=ab", "a", "b", api.ErrNone},
		{2, 4, "ba=ab", "", "ab", api.ErrNone},
		{2, 4, "ba=ab", "baba", "abbb", api.ErrNone},
		// aaa and a: only by a drawn line, aa and the empty word, within letters; pairs within letters would be too long.
		{1, 6, "aaaa= aaaaaa=", "aa", "", api.OK},
		{1, 6, "aaaa= aaaaaa=", "", "aa", api.OK},
		{1, 6, "aaaa= aaaaaa=", "aaa", "a", api.OK},
		{1, 6, "aaaa= aaaaaa=", "aaa", "aaaaa", api.OK},
		{1, 6, "aaaa= aaaaaa=", "a", "", api.ErrNone},
		{1, 6, "aaaa= aaaaaa=", "aaaaaa", "aaaaa", api.ErrNone},
		{1, 6, "aaaaa= aaaaaa=", "aaa", "aaaa", api.OK},
		// What two pairs make of one word, if it is not too long.
		{2, 3, "aba=b bab=a", "bb", "aa", api.ErrNone},
		{2, 4, "aba=b bab=a", "bb", "aa", api.OK},
		{2, 4, "aba=b bab=a", "aaab", "ba", api.OK},
		// What two pairs make of one word, and pairs that share no letter.
		{3, 3, "ab=c bc=a", "cc", "aa", api.OK},
		{3, 2, "ab=c bc=a", "cc", "aa", api.ErrNone},
		{3, 2, "a=b b=c", "aa", "cc", api.OK},
		// Words of just most letters, and the empty one.
		{2, 4, "bbbb=aaaa abab=", "aaaa", "bbbb", api.OK},
		{2, 4, "bbbb=aaaa abab=", "", "abab", api.OK},
		{2, 4, "bbbb=aaaa abab=", "", "baba", api.ErrNone},
		{3, 6, "cccccc= abcabc=", "cccccc", "abcabc", api.OK},
		{1, 1, "=a", "a", "", api.OK},
		{3, 6, "a= b= c=", "abcabc", "", api.OK},
		// Pairs said twice, the other way round, and of a word and itself.
		{2, 3, "ba=ab ba=ab", "aba", "baa", api.OK},
		{2, 3, "ba=ab ab=ba", "aba", "baa", api.OK},
		{2, 3, "ab=ba ba=ab", "baa", "aba", api.OK},
		{2, 3, "ab=ab = ba=ab", "aba", "baa", api.OK},
		{2, 3, "ab=ab =", "ab", "ba", api.ErrNone},
	} {
		said := split(c.said)
		b := open(t, c.letters, c.most, said...)
		lines, e := b.Why(c.one, c.other)
		if e != c.want || e != api.OK && len(lines) != 0 {
			t.Errorf("of %s, most %d: Why(%q, %q): %d lines, %d, want %d", c.said, c.most, c.one, c.other, len(lines), e, c.want)
		} else if e == api.OK {
			if wrong := drawn(lines, c.letters, c.most, said, c.one, c.other); wrong != "" {
				t.Errorf("of %s, most %d: Why(%q, %q): %s: %+v", c.said, c.most, c.one, c.other, wrong, lines)
			}
		}
	}
}

// TestP7Self: a word and itself, whatever is said.
func TestP7Self(t *testing.T) {
	for letters := 1; letters <= api.MaxLetters; letters++ {
		for most := 1; most <= 4; most++ {
			last := string(rune('a' + letters - 1))
			for _, said := range [][][2]string{nil, {{last, ""}}, {{"a", "a"}}, {{strings.Repeat(last, most), last}}} {
				b := open(t, letters, most, said...)
				for _, w := range allWords(letters, most) {
					lines, e := b.Why(w, w)
					if wrong := drawn(lines, letters, most, said, w, w); wrong != "" || e != api.OK {
						t.Fatalf("of %q, %d letters, most %d: Why(%q, %q): %d, %s: %+v", said, letters, most, w, w, e, wrong, lines)
					}
				}
			}
		}
	}
}

func TestP7NothingSaid(t *testing.T) {
	for letters := 1; letters <= api.MaxLetters; letters++ {
		for most := 1; most <= 3; most++ {
			b, all := open(t, letters, most), allWords(letters, most)
			for _, one := range all {
				for _, other := range all {
					if lines, e := b.Why(one, other); one != other && (len(lines) != 0 || e != api.ErrNone) {
						t.Fatalf("of nothing said: Why(%q, %q): %+v, %d", one, other, lines, e)
					}
				}
			}
		}
	}
}

// TestP7Closure: lines just where the words are the same by the document's lines.
func TestP7Closure(t *testing.T) {
	eachSaid(6, func(n *numbers, letters, most int, said [][2]string) {
		b, c := open(t, letters, most, said...), newClosure(letters, most, said)
		for range 8 {
			one, other := n.word(letters, most), n.word(letters, most)
			compareWhy(t, b, c, letters, most, said, one, other)
			compareWhy(t, b, c, letters, most, said, c.least(one), one)
			kind := c.kind(other)
			compareWhy(t, b, c, letters, most, said, kind[n.below(len(kind))], other)
		}
	})
}

func compareWhy(t *testing.T, b *hawser.Book, c *closure, letters, most int, said [][2]string, one, other string) {
	t.Helper()
	lines, e := b.Why(one, other)
	if c.least(one) != c.least(other) {
		if len(lines) != 0 || e != api.ErrNone {
			t.Fatalf("of %q, %d letters, most %d: Why(%q, %q): %d lines, %d, want none", said, letters, most, one, other, len(lines), e)
		}
		return
	}
	if wrong := drawn(lines, letters, most, said, one, other); wrong != "" || e != api.OK {
		t.Fatalf("of %q, %d letters, most %d: Why(%q, %q): %d, %s: %+v", said, letters, most, one, other, e, wrong, lines)
	}
}

// TestP7AllPairs: all words against all words, the same ones and others.
func TestP7AllPairs(t *testing.T) {
	for _, c := range []struct {
		letters, most int
		said          string
	}{
		{1, 6, "aaaa= aaaaaa="},
		{1, 6, "aaaaa=aa aaaaaa=a"},
		{2, 3, "aba=b bab=a"},
		{2, 4, "aba=b bab=a"},
		{2, 4, "aa= bbb= abab="},
		{2, 4, "bbbb=aaaa abab="},
		{3, 3, "ab=c bc=a ca=b"},
		{3, 3, "ba=ab ca=ac cb=bc"},
	} {
		said := split(c.said)
		b, same := open(t, c.letters, c.most, said...), newClosure(c.letters, c.most, said)
		for _, one := range same.words {
			for _, other := range same.words {
				compareWhy(t, b, same, c.letters, c.most, said, one, other)
			}
		}
	}
}

// TestP7Many: MaxSaid pairs, three letters, most 6: never more than MaxLines lines.
func TestP7Many(t *testing.T) {
	for _, s := range []string{
		"a=bb b=cc c=aa aaaaaa=b bbbbbb=c cccccc=a abc=cba bac=cab acb=bca aab=baa bbc=cbb cca=acc",
		"aaaaaa= aaaaa= bbbbbb= bbbbb= cccccc= ccccc= abcabc=a bcabca=b cabcab=c ba=ab ca=ac cb=bc",
		"ca=babba babcab=c bb=ccaaa abccca=b cbcca=baccbc abaac=bbcc ccaba=b abcaa=bb cbbcca= aabbc=c accbba=accaa ca=babc",
		"acc=cbcb bbbb=aaaaa bb=ccbb cacb= ab=babb bbaac= bc=caa aaaaaa=cccccc bbbbbb=aaaaaa cccccc=bbbbbb abc=acb cba=bca",
	} {
		said := split(s)
		if len(said) != api.MaxSaid {
			t.Fatalf("%d pairs", len(said))
		}
		b, c := open(t, 3, 6, said...), newClosure(3, 6, said)
		// Every seventh word, since drawing takes its time here.
		for i := 0; i < len(c.words); i += 7 {
			one := c.words[i]
			kind := c.kind(one)
			compareWhy(t, b, c, 3, 6, said, one, c.least(one))
			compareWhy(t, b, c, 3, 6, said, kind[len(kind)-1], one)
		}
	}
}

func TestP7Wrong(t *testing.T) {
	b := open(t, 2, 3, split("ba=ab bbb=a")...)
	want := whys(b, 2, 3)
	for _, w := range noWords {
		for _, p := range [][2]string{{w, w}, {w, ""}, {"", w}, {w, "a"}, {"ba", w}} {
			if lines, e := b.Why(p[0], p[1]); len(lines) != 0 || e != api.ErrWord {
				t.Errorf("Why(%.9q, %.9q): %+v, %d", p[0], p[1], lines, e)
			}
		}
		b.Say(w, "")
		b.Say("", w)
	}
	if lines, e := b.Why("", "a"); len(lines) != 0 || e != api.ErrNone {
		t.Errorf("words that are not the same: %+v, %d", lines, e)
	}
	if !alike(whys(b, 2, 3), want) {
		t.Error("after calls that answered errors Why answers otherwise")
	}
	for range api.MaxSaid {
		b.Say("a", "a")
	}
	if _, e := b.Say("a", ""); e != api.ErrMany {
		t.Fatalf("a pair too many: %d", e)
	}
	if lines, e := b.Why("a", ""); len(lines) != 0 || e != api.ErrNone {
		t.Errorf("of a pair too many: %+v, %d", lines, e)
	}
}

func TestP1WhyClosed(t *testing.T) {
	var none *hawser.Book
	wrong, _ := hawser.New(1, 0)
	said := &hawser.Book{}
	said.Say("a", "a")
	for _, b := range []*hawser.Book{none, wrong, {}, said} {
		for _, p := range [][2]string{{"", ""}, {"a", "a"}, {"a", ""}, {"c", "no word"}} {
			if lines, e := b.Why(p[0], p[1]); len(lines) != 0 || e != api.ErrClosed {
				t.Errorf("Why(%q, %q): %+v, %d", p[0], p[1], lines, e)
			}
		}
	}
}

func TestP2WhyWrittenOver(t *testing.T) {
	b := open(t, 2, 6, split("aa= bbb= abab=")...)
	list, e := b.Why("ba", "abb")
	other, _ := b.Why("ba", "abb")
	want := slices.Clone(list)
	if len(list) == 0 || e != api.OK {
		t.Fatalf("no lines: %d", e)
	}
	// What comes after the list's end may be written over too.
	list = list[:cap(list)]
	for i := range list {
		list[i] = api.Line{How: 77, Left: "mine"}
	}
	if !slices.Equal(other, want) {
		t.Errorf("another list that came out is written over too: %+v", other)
	}
	if got, _ := b.Why("ba", "abb"); !slices.Equal(got, want) {
		t.Errorf("after a list was written over: %+v, want %+v", got, want)
	}
	b.Why("abb", "ba")
	b.Say("b", "")
	b.Why("ba", "abb")
	if !slices.Equal(other, want) {
		t.Errorf("a list that came out was %+v and is %+v", want, other)
	}
}

func TestP2WhyNewMemory(t *testing.T) {
	seen := map[*byte]string{}
	look := func(text string) {
		for i := range len(text) {
			at := (*byte)(unsafe.Add(unsafe.Pointer(unsafe.StringData(text)), i))
			if first, ok := seen[at]; ok {
				t.Fatalf("%q and %q share memory", first, text)
			}
			seen[at] = text
		}
	}
	for _, said := range []string{"aa= bbb= abab=", "ba=ab", "aa=a bb=b"} {
		b := open(t, 2, 5, split(said)...)
		for _, w := range allWords(2, 5) {
			least, _ := b.Least(w)
			look(w)
			look(least)
			for _, asked := range [][2]string{{w, least}, {w, least}, {least, w}, {w, w}} {
				lines, e := b.Why(asked[0], asked[1])
				if len(lines) == 0 {
					t.Fatalf("no lines of %q and %q: %d", w, least, e)
				}
				for _, l := range lines {
					look(l.Left)
					look(l.Right)
					look(l.Ahead)
					look(l.Behind)
				}
			}
		}
	}
}

func TestP2WhyKeepsNothingHandedIn(t *testing.T) {
	b := open(t, 2, 4)
	left, right := []byte("bab"), []byte("abb")
	b.Say(unsafe.String(&left[0], len(left)), unsafe.String(&right[0], len(right)))
	want := whys(b, 2, 4)
	copy(left, "aaa")
	copy(right, "bbb")
	if !alike(whys(b, 2, 4), want) {
		t.Error("after what was handed in changed Why answers otherwise")
	}
}

func TestP2WhyCopyApart(t *testing.T) {
	for n := range 9 {
		said := split("ccc=b ba=ab ccb=c cb=bc bbb=c aa=b ab=ab b=b =aaaa")[:n]
		b := open(t, 3, 4, said...)
		want := whys(b, 3, 4)
		c := *b
		c.Say("a", "")
		if !alike(whys(b, 3, 4), want) {
			t.Fatal("a pair that is said to a copy of a Book changes the Book")
		}
		b.Say("c", "")
		lines, e := c.Why("a", "")
		if wrong := drawn(lines, 3, 4, append(said, [2]string{"a", ""}), "a", ""); wrong != "" || e != api.OK {
			t.Fatalf("a pair that is said to a Book changes its copy: %d, %s: %+v", e, wrong, lines)
		}
	}
}

// TestP2WhyAsked: lines hang on what was said alone, not on what was asked before.
func TestP2WhyAsked(t *testing.T) {
	n := numbers(8)
	for range 10 {
		asked, quiet := open(t, 2, 4), open(t, 2, 4)
		for range api.MaxSaid {
			l, r := n.word(2, 4), n.word(2, 4)
			whys(asked, 2, 4)
			asked.Why(r, l)
			asked.Why("no word", l)
			asked.Rules()
			asked.Say(l, r)
			quiet.Say(l, r)
		}
		if !alike(whys(asked, 2, 4), whys(quiet, 2, 4)) || !slices.Equal(answers(asked, 2, 4), answers(quiet, 2, 4)) {
			t.Fatal("a Book that was asked answers otherwise than one that was not")
		}
	}
}
