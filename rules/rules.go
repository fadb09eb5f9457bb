// Package rules: rules that make words less, so found that every word comes to its least by any of them in any order.
package rules

import (
	"slices"
	"strings"

	"hawser/api"
	"hawser/queue"
	"hawser/words"
)

// pair is two words that are the same, of which no rule may know yet.
type pair struct {
	left, right string
	weight      float64
	age         int
}

// search is the finding of rules: what is found, and what still has to be looked at.
type search struct {
	most  int
	rules []api.Rule
	waits *queue.Queue[pair]
	aged  int // how many pairs have ever waited
}

// Turn makes a word less by rules, as long as they may be used.
func Turn(word string, rules []api.Rule) string {
again:
	for _, rule := range rules {
		if at := strings.Index(word, rule.From); at >= 0 {
			word = word[:at] + rule.To + word[at+len(rule.From):]
			goto again
		}
	}
	return word
}

// Count tells how many words are least: those in which no rule's From stands. All but the empty one are such a word and a letter behind it, so that only From's that end with that letter have to be looked for.
func Count(rules []api.Rule, letters int, most int) int {
	found := []string{""}
	for i := 0; i < len(found) && len(found[i]) < most; i++ {
		for letter := range letters {
			word := found[i] + string(rune('a'+letter))
			if !slices.ContainsFunc(rules, func(r api.Rule) bool { return strings.HasSuffix(word, r.From) }) {
				found = append(found, word)
			}
		}
	}
	return len(found)
}

// Learn tells the rules of all that the given ones say, and of one pair more, the one with the least From first. The given ones must have come from Learn, with the same most; they are left as they are.
func Learn(rules []api.Rule, left string, right string, most int) []api.Rule {
	s := search{most: most, rules: slices.Clone(rules), waits: queue.New(lighter)}
	s.wait(left, right)
	for p, ok := s.waits.Take(); ok; p, ok = s.waits.Take() {
		s.look(p)
	}
	slices.SortFunc(s.rules, func(one api.Rule, other api.Rule) int { return words.Compare(one.From, other.From) })
	return s.rules
}

// lighter is by age where weights are alike, so that no answer hangs on how the queue is built.
func lighter(one pair, other pair) bool {
	if one.weight != other.weight {
		return one.weight < other.weight
	}
	return one.age < other.age
}

// weigh puts short pairs first, since their rules reach the most words; the longer a pair has waited, the less that counts.
func weigh(left string, right string, age int) float64 {
	return float64(len(left)) + float64(len(right))/2 + float64(age)/64
}

func (s *search) wait(left string, right string) {
	s.waits.Put(pair{left, right, weigh(left, right, s.aged), s.aged})
	s.aged++
}

// look makes a rule of a pair, unless the rules that there are know it already.
func (s *search) look(p pair) {
	left, right := Turn(p.left, s.rules), Turn(p.right, s.rules)
	switch words.Stand(left, right) {
	case words.Alike:
	case words.Wrong:
		left, right = right, left
		fallthrough
	case words.Right:
		s.add(api.Rule{From: left, To: right})
	}
}

func (s *search) add(rule api.Rule) {
	s.drop(rule.From)
	s.rules = append(s.rules, rule)
	for i, r := range s.rules {
		s.rules[i].To = Turn(r.To, s.rules)
	}
	for _, r := range s.rules {
		s.cross(rule, r)
		if r != rule {
			s.cross(r, rule)
		}
	}
}

// drop takes out the rules from words in which a part is no longer least. What they say may not follow from the others: it waits again.
func (s *search) drop(part string) {
	kept := s.rules[:0]
	for _, r := range s.rules {
		if strings.Contains(r.From, part) {
			s.wait(r.From, r.To)
		} else {
			kept = append(kept, r)
		}
	}
	s.rules = kept
}

// cross lets wait what two rules make of one word, which begins with what the one turns and ends with what the other turns. Where these share no letter, both rules can be used one after the other; and no longer word than most is a word.
func (s *search) cross(one api.Rule, other api.Rule) {
	for shared := 1; shared < min(len(one.From), len(other.From)); shared++ {
		ahead, behind := one.From[:len(one.From)-shared], other.From[shared:]
		if len(one.From)+len(behind) <= s.most && strings.HasSuffix(one.From, other.From[:shared]) {
			s.wait(one.To+behind, ahead+other.To)
		}
	}
}
