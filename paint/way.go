package paint

import (
	"container/heap"

	"casement/api"
	"casement/bounds"
	"casement/letters"
	"casement/screen"
)

// spot is where the cursor is, whether the next letter begins a line, and the pen.
type spot struct {
	x, y    int
	pending bool
	pen     api.Pen
}

// moved is another place with the same pen.
func (s spot) moved(x, y int) spot { return spot{x: x, y: y, pen: s.pen} }

// inked is the same place with another pen.
func (s spot) inked(pen api.Pen) spot { return spot{s.x, s.y, s.pending, pen} }

// landing tells where a letter is put. If the screen would scroll ahead of it, this is no place of the screen.
func (s spot) landing() (x, y int) {
	if s.pending {
		return 0, s.y + 1
	}
	return s.x, s.y
}

// goal is the place and the pen for what comes next: a letter, or else a sequence that erases from the cursor on.
type goal struct {
	x, y   int
	pen    api.Pen
	letter bool
}

func (g goal) isAt(s spot) bool {
	if s.pending && !g.letter {
		return false
	}
	x, y := s.landing()
	return x == g.x && y == g.y && s.pen == g.pen
}

// way is bytes, and the spot to which they lead. What changes the pen is not among them: each way takes it once,
// and ways are held against each other by the rest alone.
type way struct {
	bytes string
	inked int // behind how many of the bytes the pen changes
	end   spot
}

// then is the way with one more step.
func (w way) then(step way) way {
	if w.end.pen != step.end.pen {
		w.inked = len(w.bytes)
	}
	return way{w.bytes + step.bytes, w.inked, step.end}
}

// ways is a heap, with a way of the fewest bytes on top.
type ways []way

func (w ways) Len() int           { return len(w) }
func (w ways) Less(i, j int) bool { return len(w[i].bytes) < len(w[j].bytes) }
func (w ways) Swap(i, j int)      { w[i], w[j] = w[j], w[i] }
func (w *ways) Push(x any)        { *w = append(*w, x.(way)) }

func (w *ways) Pop() any {
	last := len(*w) - 1
	popped := (*w)[last]
	*w = (*w)[:last]
	return popped
}

// route tells the fewest bytes that lead a screen to a goal, step by step or straight. They change no cell.
func route(on *screen.Screen, to goal) string {
	state := on.State()
	start := spot{state.X, state.Y, state.Pending, state.Pen}
	straight := way{bytes: place(to.x, to.y), end: spot{x: to.x, y: to.y, pen: to.pen}}
	open := &ways{{end: start}, straight}
	known := map[spot]struct{}{}
	for {
		// The heap gives the ways by their bytes, so the first one that is at the goal has the fewest.
		shortest := heap.Pop(open).(way)
		if to.isAt(shortest.end) {
			return shortest.bytes[:shortest.inked] + penChange(start.pen, to.pen) + shortest.bytes[shortest.inked:]
		}
		if _, been := known[shortest.end]; been {
			continue
		}
		known[shortest.end] = struct{}{}
		for _, step := range steps(on, shortest.end, to) {
			if longer := shortest.then(step); len(longer.bytes) < len(straight.bytes) {
				heap.Push(open, longer)
			}
		}
	}
}

// steps tells what may come next on a way.
func steps(on *screen.Screen, from spot, to goal) []way {
	all := []way{
		{bytes: "\r", end: from.moved(0, from.y)},
		{bytes: "\b", end: from.moved(bounds.Greatest(from.x-1, 0), from.y)},
		{end: from.inked(to.pen)},
	}
	// In the last line it would scroll.
	if on.Has(from.x, from.y+1) {
		all = append(all, way{bytes: "\n", end: from.moved(from.x, from.y+1)})
	}
	if from.y != to.y {
		all = append(all, way{bytes: along(to.y-from.y, "B", "A"), end: from.moved(from.x, to.y)})
	}
	if from.x != to.x {
		all = append(all, way{bytes: along(to.x-from.x, "C", "D"), end: from.moved(to.x, from.y)})
	}
	return append(all, again(on, from)...)
}

// again tells the step over a letter by writing it once more, if it is there already with the pen.
func again(on *screen.Screen, from spot) []way {
	x, y := from.landing()
	if !on.Has(x, y) {
		return nil
	}
	cell := on.Cell(x, y)
	if cell.Part == api.Tail || cell.Pen != from.pen {
		return nil
	}
	next := from.moved(x+letters.Width(cell.Rune), y)
	if !on.Has(next.x, y) {
		next.x, next.pending = next.x-1, true
	}
	return []way{{bytes: string(cell.Rune), end: next}}
}
