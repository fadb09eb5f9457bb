package rules

import (
	"slices"
	"strings"
	"testing"

	"hawser/api"
)

// learn: the rules of pairs, as words (ba=ab aa=).
func learn(most int, said string) []api.Rule {
	var found []api.Rule
	for _, s := range strings.Fields(said) {
		left, right, _ := strings.Cut(s, "=")
		found = Learn(found, left, right, most)
	}
	return found
}

func text(found []api.Rule) string {
	var all []string
	for _, r := range found {
		all = append(all, r.From+"="+r.To)
	}
	return strings.Join(all, " ")
}

func TestTurn(t *testing.T) {
	sorting := []api.Rule{{From: "ba", To: "ab"}, {From: "c", To: ""}}
	for word, want := range map[string]string{"": "", "ab": "ab", "ba": "ab", "bbbaaa": "aaabbb", "bca": "ab", "ccc": "", "cbcac": "ab"} {
		if got := Turn(word, sorting); got != want {
			t.Errorf("Turn(%q) = %q, want %q", word, got, want)
		}
	}
	if got := Turn("ba", nil); got != "ba" {
		t.Errorf("of no rules: %q", got)
	}
}

func TestLearn(t *testing.T) {
	for _, c := range []struct {
		most       int
		said, want string
	}{
		{4, "", ""},
		{4, "ab=ab", ""},
		{4, "ba=ab", "ba=ab"},
		{4, "ab=ba", "ba=ab"},
		{4, "ba=ab ab=ba", "ba=ab"},
		{6, "aaaa= aaaaaa=", "aa="},
		{6, "=aaaaaa =aaaa", "aa="},
		{3, "aba=b bab=a", "aba=b bab=a"},
		{4, "aba=b bab=a", "bb=aa aba=b baa=aab bab=a aaab=ba"},
		{1, "a=b b=c", "b=a c=a"},
		{1, "b=c a=b", "b=a c=a"},
		// What a rule turns into becomes less by a later one.
		{2, "cc=b b=a", "b=a cc=a"},
		// A rule from a word in which a later one stands is lost, but not what it says.
		{3, "aab=b ab=c", "ab=c ac=b"},
	} {
		if got := text(learn(c.most, c.said)); got != c.want {
			t.Errorf("of %s, most %d: %s, want %s", c.said, c.most, got, c.want)
		}
	}
}

func TestCount(t *testing.T) {
	for _, c := range []struct {
		letters, most int
		said          string
		want          int
	}{
		{1, 1, "", 2},
		{3, 6, "", 1093},
		{2, 4, "ba=ab", 15},
		// From's that begin alike, that end alike, and that no letter stands ahead of or behind.
		{2, 3, "aba=b abb=b", 13},
		{2, 3, "aab=b bab=b", 13},
		{2, 3, "bbb=", 14},
		{3, 6, "a= b= c=", 1},
	} {
		if got := Count(learn(c.most, c.said), c.letters, c.most); got != c.want {
			t.Errorf("of %s, %d letters, most %d: %d, want %d", c.said, c.letters, c.most, got, c.want)
		}
	}
}

func TestLearnLeavesRules(t *testing.T) {
	given := learn(4, "ccc=b bb=c")
	before := slices.Clone(given)
	Learn(given, "c", "", 4)
	if !slices.Equal(given, before) {
		t.Errorf("the given rules were %s and are %s", text(before), text(given))
	}
}

func TestLighter(t *testing.T) {
	rising := []pair{{"c", "b", 0.5, 9}, {"b", "a", 1, 1}, {"a", "", 1, 2}, {"", "", 1.25, 0}}
	for i, one := range rising {
		for j, other := range rising {
			if got := lighter(one, other); got != (i < j) {
				t.Errorf("lighter of %d and %d: %v", i, j, got)
			}
		}
	}
	if weigh("a", "", 5) >= weigh("aa", "", 5) || weigh("a", "", 5) >= weigh("a", "b", 5) || weigh("a", "b", 5) >= weigh("a", "b", 6) {
		t.Error("a pair that is shorter or older must weigh less")
	}
}
