package casement_test

import (
	"slices"
	"testing"

	"casement/api"
	"casement/casement"
)

// flushes tells what Flush tells of a desk that three made, now and after each of some changes.
func flushes(d *casement.Desk) []string {
	told := []string{d.Flush()}
	for _, change := range []func(){
		func() { d.Write(2, 0, 0, "中!", blue) },
		func() { d.Raise(1, true) },
		func() { d.Scroll(0, 1) },
		func() { d.Resize(5, 4); d.Fill(0, 4, 0, 1, 9, blue) },
		func() { n, _ := d.Create(0, 0, 2, 2, 2); d.Fill(n, 0, 0, n, 9, red) },
		func() { d.Delete(1) },
	} {
		change()
		told = append(told, d.Flush())
	}
	return told
}

func TestP12WhatIsRefusedChangesNoByte(t *testing.T) {
	for _, flushed := range []bool{false, true} {
		begin := func() *casement.Desk {
			d := three(t)
			if flushed {
				d.Flush()
			}
			return d
		}
		want := flushes(begin())
		if slices.Index(want[1:], "") >= 0 {
			t.Errorf("some change is not seen: %q", want)
		}
		for _, r := range allRefusals() {
			d := begin()
			if e := r.call(d); e != r.want {
				t.Errorf("%s: %d, want %d", r.name, e, r.want)
			}
			if got := flushes(d); !slices.Equal(got, want) {
				t.Errorf("%s, refused by %d: told %q, want %q", r.name, r.want, got, want)
			}
		}
	}
}

func TestP12AFullDeskRefusesAndChangesNoByte(t *testing.T) {
	begin := func() *casement.Desk {
		d := opened(t, 9, 3)
		for n := 1; n < api.MaxWindows; n++ {
			laid(t, d, n/2, 1, 0, 4, 2, "ab")
		}
		return d
	}
	tell := func(d *casement.Desk) []string {
		told := []string{d.Flush()}
		d.Delete(3)
		n, _ := d.Create(0, 2, 1, 2, 1)
		d.Write(n, 0, 0, string(rune('a'+n)), red)
		return append(told, d.Flush())
	}
	want := tell(begin())
	d := begin()
	for range 3 {
		if e := created(d, 0, 0, 0, 1, 1); e != api.ErrFull {
			t.Errorf("answered %d", e)
		}
	}
	if got := tell(d); !slices.Equal(got, want) {
		t.Errorf("told %q, want %q", got, want)
	}
}

// The one desk is asked for what it refuses; the other is not, but for other things that it refuses.
func TestP12RefusalsAmongAll(t *testing.T) {
	d := dice(47)
	refusals := slices.DeleteFunc(allRefusals(), func(r refusal) bool {
		// These hang on which windows there are.
		return r.want == api.ErrWindow || r.want == api.ErrRoot || r.want == api.ErrLoop
	})
	for range 100 {
		one, other, m := opened(t, 7, 4), opened(t, 7, 4), newModel(7, 4)
		for range 40 {
			a := throw(&d, m.made)
			if e, follow := call(one, m, a); e == api.OK {
				follow(m.at(a.window))
				call(other, m, a)
			}
			refusals[d.below(len(refusals))].call(other)
			other.Cell(d.below(9)-1, d.below(6)-1)
			if d.below(2) == 0 {
				continue
			}
			if got, want := other.Flush(), one.Flush(); got != want {
				t.Fatalf("after %+v: told %q, want %q", a, got, want)
			}
		}
	}
}

// copied makes a window and all in it once more on another desk, straight from what they are.
func copied(t *testing.T, m *model, w *modelled, to *casement.Desk, number int) {
	t.Helper()
	for place, c := range w.cells {
		if c.Part != api.Tail {
			fine(t, to.Write(number, place[0], place[1], string(c.Rune), c.Pen))
		}
	}
	for _, inner := range m.windows {
		if inner.parent == w.number {
			n, e := to.Create(number, inner.x, inner.y, inner.width, inner.height)
			fine(t, e)
			fine(t, to.Show(n, inner.shown))
			copied(t, m, inner, to, n)
		}
	}
}

func TestP12HowTheWindowsCameToBeDoesNotMatter(t *testing.T) {
	d := dice(61)
	for range 200 {
		desk, m := opened(t, 7, 4), newModel(7, 4)
		for range 60 {
			a := throw(&d, m.made)
			if e, follow := call(desk, m, a); e == api.OK {
				follow(m.at(a.window))
			}
		}
		root := m.at(0)
		straight := opened(t, root.width, root.height)
		copied(t, m, root, straight, 0)
		if !slices.Equal(cells(straight), cells(desk)) {
			t.Fatalf("the picture is %q, want %q", lines(straight), lines(desk))
		}
		if got, want := straight.Flush(), desk.Flush(); got != want {
			t.Fatalf("told %q, want %q", got, want)
		}
	}
}
