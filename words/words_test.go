package words

import (
	"strings"
	"testing"
)

func TestIs(t *testing.T) {
	for _, c := range []struct {
		text          string
		letters, most int
		want          bool
	}{
		{"", 1, 1, true}, {"a", 1, 1, true}, {"aa", 1, 1, false}, {"b", 1, 1, false},
		{"abcabc", 3, 6, true}, {"abcabca", 3, 6, false}, {"abcabd", 3, 6, false}, {"abc", 2, 6, false},
		{"`", 3, 6, false}, {"A", 3, 6, false}, {" ", 3, 6, false}, {"\x00", 3, 6, false}, {"\xff", 3, 6, false}, {"a\xc3", 3, 6, false}, {"á", 3, 6, false},
		{strings.Repeat("a", 1<<20), 3, 6, false},
	} {
		if got := Is(c.text, c.letters, c.most); got != c.want {
			t.Errorf("Is(%.10q, %d, %d) = %v", c.text, c.letters, c.most, got)
		}
	}
}

func TestStand(t *testing.T) {
	rising := []string{"", "a", "b", "c", "aa", "ab", "ba", "cc", "aaa", "aab", "caa"}
	for i, one := range rising {
		for j, other := range rising {
			want, less := Alike, 0
			if i < j {
				want, less = Wrong, -1
			} else if i > j {
				want, less = Right, 1
			}
			if got := Compare(one, other); got != less {
				t.Errorf("Compare(%q, %q) = %d, want %d", one, other, got, less)
			}
			if got := Stand(one, other); got != want {
				t.Errorf("Stand(%q, %q) = %d, want %d", one, other, got, want)
			}
		}
	}
}
