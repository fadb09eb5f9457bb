package draw

import (
	"slices"
	"strings"
	"testing"

	"hawser/api"
)

// pairs: out of words (ba=ab aa=).
func pairs(said string) []Pair {
	var all []Pair
	for _, s := range strings.Fields(said) {
		left, right, _ := strings.Cut(s, "=")
		all = append(all, Pair{left, right})
	}
	return all
}

func sheetOf(said string) *sheet {
	s := &sheet{backs: map[int]int{}}
	for i, p := range pairs(said) {
		s.said(i, p)
	}
	return s
}

func (s *sheet) expect(t *testing.T, what string, number int, want api.Line) {
	t.Helper()
	if got := s.lines[number]; got != want {
		t.Errorf("%s: %+v, want %+v", what, got, want)
	}
}

func TestBack(t *testing.T) {
	s := sheetOf("a=b")
	back := s.back(0)
	s.expect(t, "back", back, api.Line{How: api.Back, Left: "b", Right: "a", A: 0})
	if s.back(back) != 0 || s.back(0) != back {
		t.Error("back and back again, or back twice, are lines more")
	}
	if self := s.self("a"); s.back(self) != self {
		t.Error("a word and itself, the other way round, is a line more")
	}
}

func TestThen(t *testing.T) {
	s := sheetOf("a=b b=c")
	s.expect(t, "then", s.then(0, 1), api.Line{How: api.Then, Left: "a", Right: "c", A: 0, B: 1})
	if s.then(s.self("a"), 0) != 0 || s.then(0, s.self("b")) != 0 {
		t.Error("a word and itself, and then a line, is a line more")
	}
}

func TestWithin(t *testing.T) {
	s := sheetOf("a=b")
	first := s.within(0, "a", "b")
	s.expect(t, "within", first, api.Line{How: api.Within, Left: "aab", Right: "abb", A: 0, Ahead: "a", Behind: "b"})
	s.expect(t, "within twice", s.within(first, "bc", "ca"), api.Line{How: api.Within, Left: "bcaabca", Right: "bcabbca", A: 0, Ahead: "bca", Behind: "bca"})
}

func TestMeet(t *testing.T) {
	s := sheetOf("a=c b=c c=aa aa=bb")
	s.expect(t, "of a line and itself", s.meet(0, 0), api.Line{How: api.Self, Left: "a", Right: "a"})
	s.expect(t, "of two lines", s.meet(0, 1), api.Line{How: api.Then, Left: "a", Right: "b", A: 0, B: s.back(1)})
	long, other := s.then(0, 2), s.then(1, 2)
	if s.meet(long, 2) != 0 {
		t.Error("the end that the first line shares with the second one is not left out")
	}
	if s.meet(2, long) != s.back(0) {
		t.Error("the end that the second line shares with the first one is not left out")
	}
	s.expect(t, "of two lines that end alike", s.meet(long, other), api.Line{How: api.Then, Left: "a", Right: "b", A: 0, B: s.back(1)})
	longer, longest := s.then(long, 3), s.then(other, 3)
	s.expect(t, "of two lines that end alike, and again", s.meet(longer, longest), api.Line{How: api.Then, Left: "a", Right: "b", A: 0, B: s.back(1)})
}

func TestTell(t *testing.T) {
	s := sheetOf("a=aa b=c bb=b")
	last := s.within(s.then(2, s.back(s.back(1))), "a", "")
	s.back(last)
	want := []api.Line{
		{How: api.Said, Left: "b", Right: "c", Said: 1},
		{How: api.Said, Left: "bb", Right: "b", Said: 2},
		{How: api.Then, Left: "bb", Right: "c", A: 1, B: 0},
		{How: api.Within, Left: "abb", Right: "ac", A: 2, Ahead: "a"},
	}
	if got := s.tell(last); !slices.Equal(got, want) {
		t.Errorf("%+v, want %+v", got, want)
	}
	if got := s.tell(1); !slices.Equal(got, want[:1]) {
		t.Errorf("of a line that hangs on none: %+v, want %+v", got, want[:1])
	}
}

func TestLines(t *testing.T) {
	for _, c := range []struct {
		letters, most int
		said          string
		one, other    string
		want          bool
	}{
		{2, 4, "", "a", "a", true},
		{2, 4, "", "a", "b", false},
		{2, 4, "ba=ab", "bab", "abb", true},
		{2, 4, "ba=ab", "bab", "aab", false},
		{1, 6, "aaaa= aaaaaa=", "aaa", "a", true},
		{1, 6, "aaaa= aaaaaa=", "aa", "a", false},
		{1, 5, "aaaa= aaaaa=", "a", "", true},
		{2, 3, "aba=b bab=a", "bb", "aa", false},
		{2, 4, "aba=b bab=a", "bb", "aa", true},
	} {
		lines := Lines(pairs(c.said), c.letters, c.most, c.one, c.other)
		if (len(lines) > 0) != c.want {
			t.Errorf("of %s, most %d: %q and %q: %+v", c.said, c.most, c.one, c.other, lines)
		}
		if c.want && (lines[len(lines)-1].Left != c.one || lines[len(lines)-1].Right != c.other) {
			t.Errorf("of %s, most %d: %q and %q: the last line is %+v", c.said, c.most, c.one, c.other, lines[len(lines)-1])
		}
	}
}

// TestJoin: only the words of the smaller kind are drawn anew, whichever side of the line they stand on.
func TestJoin(t *testing.T) {
	for _, said := range []string{"b=bb aa=b a=aa", "b=bb aa=b aa=a", "b=bb aa=b bb=a", "b=bb aa=b a=bb"} {
		d, all := begin(2, 2), pairs(said)
		d.join(d.said(0, all[0]))
		d.join(d.said(1, all[1]))
		before := []place{d.at("b"), d.at("bb"), d.at("aa")}
		d.join(d.said(2, all[2]))
		if after := []place{d.at("b"), d.at("bb"), d.at("aa")}; !slices.Equal(after, before) {
			t.Errorf("of %s: words of the greater kind are drawn anew", said)
		}
		for _, word := range []string{"a", "b", "bb", "aa"} {
			at := d.at(word)
			if at.kind != before[0].kind || at.kind.least != "a" || len(at.kind.words) != 4 {
				t.Errorf("of %s: the kind of %q is %+v", said, word, at.kind)
			}
			if line := d.lines[at.line]; line.Left != word || line.Right != d.lines[before[0].line].Right {
				t.Errorf("of %s: the line of %q is %+v", said, word, line)
			}
		}
	}
}

// TestFew: all that is ever drawn, also what is not told.
func TestFew(t *testing.T) {
	for _, said := range []string{
		"a= b= c=",
		"=a =b =c",
		"a=b b=c",
		"cccccc=bbbbbb bbbbbb=aaaaaa aaaaaa=",
		"aaaa= aaaaaa= bbbb= bbbbbb= cccc= cccccc=",
		"aaaaa= aaaaaa= bbbbb= bbbbbb= ccccc= cccccc=",
		"ba=ab ca=ac cb=bc",
		"ba=ab ca=ac cb=bc aaaaaa=b bbbbbb=c cccccc=",
		"cccca=bacca ac=acb cbc= bbab=baacb bcbcca=",
		"a=bbcb =bbbaa =cbccba = =cbac",
		"a=bb b=cc c=aa aaaaaa=b bbbbbb=c cccccc=a abc=cba bac=cab acb=bca aab=baa bbc=cbb cca=acc",
	} {
		d := begin(3, 6)
		for i, p := range pairs(said) {
			if d.apart(p.Left, p.Right) {
				d.join(d.said(i, p))
			}
		}
		for word, ok := d.waits.Take(); ok; word, ok = d.waits.Take() {
			d.spread(word)
		}
		if len(d.lines) >= api.MaxLines/2 {
			t.Errorf("of %s: %d lines", said, len(d.lines))
		}
	}
}
