// Package paint tells few bytes that make a screen show a picture.
package paint

import (
	"strings"

	"casement/api"
	"casement/grid"
	"casement/screen"
)

// painter brings a screen nearer to a picture of the same size, and keeps what it told the screen.
type painter struct {
	picture [][]api.Cell // line by line
	screen  *screen.Screen
	told    strings.Builder
}

// Bytes tells what makes a screen show a picture, which is of the same size. The screen itself stays as it is.
func Bytes(shown *screen.Screen, picture [][]api.Cell) string {
	told := repaint(shown, picture, 0)
	if lines := nearest(shown, picture); lines != 0 {
		if scrolled := repaint(shown, picture, lines); len(scrolled) < len(told) {
			return scrolled
		}
	}
	return told
}

// repaint tells what makes a screen show a picture, if it scrolls by so many lines first.
func repaint(shown *screen.Screen, picture [][]api.Cell, lines int) string {
	p := &painter{picture: picture, screen: shown.Clone()}
	if lines != 0 {
		p.scroll(lines)
	}
	for y, line := range picture {
		for x := range line {
			if p.differs(x, y) {
				p.mend(x, y)
			}
		}
	}
	return p.told.String()
}

// nearest tells by how many lines a screen has to scroll up to have the most cells of a picture, and 0 if it need not.
func nearest(shown *screen.Screen, picture [][]api.Cell) int {
	best, fewest := 0, others(shown, picture, 0)
	for lines := 1; lines <= len(picture); lines++ {
		for _, by := range []int{lines, -lines} {
			if n := others(shown, picture, by); n < fewest {
				best, fewest = by, n
			}
		}
	}
	return best
}

// others tells how many cells of a picture a screen does not have, once it has scrolled up and plain blanks have come.
func others(shown *screen.Screen, picture [][]api.Cell, lines int) int {
	sum := 0
	for y, line := range picture {
		for x, want := range line {
			cell := grid.Blank(api.Pen{})
			if shown.Has(x, y+lines) {
				cell = shown.Cell(x, y+lines)
			}
			if cell != want {
				sum++
			}
		}
	}
	return sum
}

func (p *painter) tell(bytes string) {
	p.told.WriteString(bytes)
	p.screen.Feed(bytes)
}

// scroll moves all lines up (down, if lines is below 0), so that plain blanks come.
func (p *painter) scroll(lines int) {
	p.tell(penChange(p.screen.State().Pen, p.eraser(0)))
	p.tell(along(lines, "S", "T"))
}

// eraser tells the pen that the screen has, but with a back: what is erased takes nothing else from it.
func (p *painter) eraser(back int) api.Pen {
	pen := p.screen.State().Pen
	pen.Back = back
	return pen
}

func (p *painter) differs(x, y int) bool {
	return p.screen.Cell(x, y) != p.picture[y][x]
}

// mend makes a cell as it is in the picture, and cells behind it, if they come with it. All cells ahead of it are so already,
// so it is no tail, and nothing ahead of it breaks.
func (p *painter) mend(x, y int) {
	cell := p.picture[y][x]
	if erasure := p.erasure(x, y); erasure != "" {
		p.tell(route(p.screen, goal{x, y, p.eraser(cell.Pen.Back), false}))
		p.tell(erasure)
		return
	}
	p.tell(route(p.screen, goal{x, y, cell.Pen, true}))
	p.tell(string(cell.Rune))
}
