package draw

import (
	"strings"

	"hawser/api"
)

// sheet is lines that are drawn.
type sheet struct {
	lines []api.Line
	backs map[int]int // of a line, the one that says it the other way round
}

func (s *sheet) add(line api.Line) int {
	s.lines = append(s.lines, line)
	return len(s.lines) - 1
}

func (s *sheet) self(word string) int {
	return s.add(api.Line{How: api.Self, Left: word, Right: word})
}

func (s *sheet) said(number int, pair Pair) int {
	return s.add(api.Line{How: api.Said, Left: pair.Left, Right: pair.Right, Said: number})
}

// back draws a line the other way round, unless there is a line that says so already.
func (s *sheet) back(a int) int {
	line := s.lines[a]
	switch line.How {
	case api.Self:
		return a
	case api.Back:
		return line.A
	}
	number, ok := s.backs[a]
	if !ok {
		number = s.add(api.Line{How: api.Back, Left: line.Right, Right: line.Left, A: a})
		s.backs[a] = number
	}
	return number
}

// then draws one line of two, unless one of them says it of a word and itself.
func (s *sheet) then(a int, b int) int {
	one, other := s.lines[a], s.lines[b]
	if one.How == api.Self {
		return b
	}
	if other.How == api.Self {
		return a
	}
	return s.add(api.Line{How: api.Then, Left: one.Left, Right: other.Right, A: a, B: b})
}

// within puts a line within letters: at once within all of them, where it was put within some before.
func (s *sheet) within(a int, ahead string, behind string) int {
	line := s.lines[a]
	if line.How == api.Within {
		return s.within(line.A, ahead+line.Ahead, line.Behind+behind)
	}
	return s.add(api.Line{How: api.Within, Left: ahead + line.Left + behind, Right: ahead + line.Right + behind, A: a, Ahead: ahead, Behind: behind})
}

// meet draws of two lines with the same Right that their Lefts are the same. Where both end by one and the same line, that line is not needed.
func (s *sheet) meet(a int, b int) int {
	one, other := s.lines[a], s.lines[b]
	switch {
	case a == b:
		return s.self(one.Left)
	case one.How == api.Then && one.B == b:
		return one.A
	case other.How == api.Then && other.B == a:
		return s.back(other.A)
	case one.How == api.Then && other.How == api.Then && one.B == other.B:
		return s.meet(one.A, other.A)
	}
	return s.then(a, s.back(b))
}

// tell tells a line, and ahead of it only those that it hangs on, with numbers of their own.
func (s *sheet) tell(last int) []api.Line {
	needed := make([]bool, last+1)
	needed[last] = true
	count := 0
	for i := last; i >= 0; i-- {
		if !needed[i] {
			continue
		}
		count++
		switch s.lines[i].How {
		case api.Then:
			needed[s.lines[i].B] = true
			fallthrough
		case api.Back, api.Within:
			needed[s.lines[i].A] = true
		}
	}
	told, numbers := make([]api.Line, 0, count), make([]int, last+1)
	for i, line := range s.lines[:last+1] {
		if needed[i] {
			numbers[i] = len(told)
			told = append(told, renumbered(line, numbers))
		}
	}
	return told
}

// renumbered is new memory: what comes out shares none with words that are kept or were handed in.
func renumbered(line api.Line, numbers []int) api.Line {
	switch line.How {
	case api.Then:
		line.B = numbers[line.B]
		fallthrough
	case api.Back, api.Within:
		line.A = numbers[line.A]
	}
	line.Left, line.Right = strings.Clone(line.Left), strings.Clone(line.Right)
	line.Ahead, line.Behind = strings.Clone(line.Ahead), strings.Clone(line.Behind)
	return line
}
