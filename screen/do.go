package screen

import (
	"casement/api"
	"casement/bounds"
)

// do does what a sequence asks for that ends with this byte.
func (s *Screen) do(last byte) {
	n := s.sequence.counted(0, 1)
	switch last {
	case 'A':
		s.goTo(s.x, s.y-n)
	case 'B':
		s.goTo(s.x, s.y+n)
	case 'C':
		s.goTo(s.x+n, s.y)
	case 'D':
		s.goTo(s.x-n, s.y)
	case 'H':
		s.goTo(s.sequence.counted(1, 1)-1, n-1)
	case 'K':
		s.eraseLine(s.sequence.numbers[0])
	case 'J':
		s.eraseLines(s.sequence.numbers[0])
	case 'X':
		s.erase(s.x, s.x+n, s.y)
	case 'S':
		s.scroll(n)
	case 'T':
		s.scroll(-n)
	case 'r':
		s.setMargins(n, s.sequence.counted(1, api.MaxNumber))
	case 'm':
		for _, number := range s.sequence.all() {
			changePen(&s.pen, number)
		}
	}
}

// What is erased, seen from the cursor.
const (
	onward   = 0
	backward = 1
	whole    = 2
)

// eraseLine erases within the cursor's line.
func (s *Screen) eraseLine(what int) {
	width := s.cells.Width()
	switch what {
	case onward:
		s.erase(s.x, width, s.y)
	case backward:
		s.erase(0, s.x+1, s.y)
	case whole:
		s.erase(0, width, s.y)
	}
}

// eraseLines erases within the cursor's line, and the lines beyond it.
func (s *Screen) eraseLines(what int) {
	s.eraseLine(what)
	for y := range s.cells.Height() {
		switch {
		case what == onward && y > s.y, what == backward && y < s.y, what == whole:
			s.erase(0, s.cells.Width(), y)
		}
	}
}

// erase erases the cells of a line from one column up to, not with, another.
func (s *Screen) erase(from, to, y int) {
	s.cells.Erase(from, to, y, s.eraser())
}

// setMargins takes lines that are counted from 1 on.
func (s *Screen) setMargins(first, last int) {
	height := s.cells.Height()
	last = bounds.Least(last, height)
	// A screen of one line could have no margins at all, if the first had to be above the last.
	if first < last || first == last && height == 1 {
		s.top, s.bottom = first-1, last-1
		s.goTo(0, 0)
	}
}

// changePen does what one number of the sequence m asks for.
func changePen(pen *api.Pen, number int) {
	switch {
	case number == 0:
		*pen = api.Pen{}
	case number == 1, number == 22:
		pen.Bold = number == 1
	case number == 4, number == 24:
		pen.Under = number == 4
	case number == 7, number == 27:
		pen.Reverse = number == 7
	case bounds.Within(number, 30, 37):
		pen.Front = number - 29
	case number == 39:
		pen.Front = 0
	case bounds.Within(number, 40, 47):
		pen.Back = number - 39
	case number == 49:
		pen.Back = 0
	}
}
