package paint

import (
	"testing"

	"casement/api"
	"casement/screen"
)

func manyPens() []api.Pen {
	var all []api.Pen
	for _, front := range []int{0, 1, 5, api.Colours - 1} {
		for _, back := range []int{0, 1, api.Colours - 1} {
			for bits := range 8 {
				all = append(all, api.Pen{Front: front, Back: back, Bold: bits&1 != 0, Under: bits&2 != 0, Reverse: bits&4 != 0})
			}
		}
	}
	return all
}

func TestPenChangeFromEveryPenToEveryOther(t *testing.T) {
	const longest = len("\x1b[;1;4;7;37;47m")
	for _, from := range manyPens() {
		for _, to := range manyPens() {
			s := screen.New(2, 1)
			s.Feed(penChange(api.Pen{}, from))
			change := penChange(from, to)
			s.Feed(change)
			if got := s.State(); got.Pen != to || !got.Ground || s.Cell(0, 0).Rune != ' ' {
				t.Fatalf("from %+v to %+v by %q: %+v", from, to, change, got)
			}
			if len(change) > longest || (from == to) != (change == "") {
				t.Fatalf("from %+v to %+v: %q", from, to, change)
			}
		}
	}
}

func TestPenChangeTakesFewBytes(t *testing.T) {
	all := api.Pen{Front: 8, Back: 8, Bold: true, Under: true, Reverse: true}
	for _, c := range []struct {
		from, to api.Pen
		want     string
	}{
		{api.Pen{}, api.Pen{Bold: true}, "\x1b[1m"},
		{api.Pen{Bold: true}, api.Pen{}, "\x1b[m"},
		{api.Pen{Front: 3, Bold: true}, api.Pen{Front: 3}, "\x1b[22m"},
		{api.Pen{Front: 3, Under: true}, api.Pen{Front: 4, Under: true}, "\x1b[33m"},
		{api.Pen{Front: 3, Back: 4, Under: true}, api.Pen{Back: 4, Under: true}, "\x1b[39m"},
		{api.Pen{Front: 3, Back: 4, Under: true}, api.Pen{Front: 3, Under: true}, "\x1b[49m"},
		{all, api.Pen{Reverse: true}, "\x1b[;7m"},
		{api.Pen{}, all, "\x1b[1;4;7;37;47m"},
		{all, all, ""},
	} {
		if got := penChange(c.from, c.to); got != c.want {
			t.Errorf("from %+v to %+v: %q, want %q", c.from, c.to, got, c.want)
		}
	}
}
