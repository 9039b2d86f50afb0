package casement_test

import (
	"math"
	"slices"
	"strings"
	"testing"

	"casement/api"
	"casement/casement"
)

// refusal is a call that must be refused.
type refusal struct {
	name string
	want api.Errno
	call func(d *casement.Desk) api.Errno
}

var wrongPlaces = [][2]int{
	{api.MaxPlace + 1, 0}, {0, api.MaxPlace + 1}, {-api.MaxPlace - 1, 0}, {0, -api.MaxPlace - 1}, {math.MaxInt, 0}, {0, math.MinInt}, {1 << 32, 0},
}

var wrongPens = []api.Pen{{Front: api.Colours}, {Back: api.Colours}, {Front: -1}, {Back: -1}, {Front: math.MaxInt}, {Back: math.MinInt}, {Front: 1 << 32}}

var wrongWindows = []int{-1, 4, 5, 16, math.MaxInt, math.MinInt, 1 << 32}

func created(d *casement.Desk, parent, x, y, width, height int) api.Errno {
	n, e := d.Create(parent, x, y, width, height)
	if n != 0 {
		return -1
	}
	return e
}

// wrongWindowCalls have other errors besides, which are named later.
func wrongWindowCalls(n int) []refusal {
	long := strings.Repeat("x", api.MaxText+1)
	return []refusal{
		{"Create", api.ErrWindow, func(d *casement.Desk) api.Errno { return created(d, n, 2000, 0, 0, 0) }},
		{"Delete", api.ErrWindow, func(d *casement.Desk) api.Errno { return d.Delete(n) }},
		{"Move", api.ErrWindow, func(d *casement.Desk) api.Errno { return d.Move(n, 2000, 0) }},
		{"Shape", api.ErrWindow, func(d *casement.Desk) api.Errno { return d.Shape(n, 0, 0) }},
		{"Raise", api.ErrWindow, func(d *casement.Desk) api.Errno { return d.Raise(n, true) }},
		{"Show", api.ErrWindow, func(d *casement.Desk) api.Errno { return d.Show(n, false) }},
		{"Give", api.ErrWindow, func(d *casement.Desk) api.Errno { return d.Give(n, 0) }},
		{"Give to", api.ErrWindow, func(d *casement.Desk) api.Errno { return d.Give(1, n) }},
		{"Give the root to", api.ErrWindow, func(d *casement.Desk) api.Errno { return d.Give(0, n) }},
		{"Give to itself", api.ErrWindow, func(d *casement.Desk) api.Errno { return d.Give(n, n) }},
		{"Write", api.ErrWindow, func(d *casement.Desk) api.Errno { return d.Write(n, 2000, 0, long, wrongPens[0]) }},
		{"Fill", api.ErrWindow, func(d *casement.Desk) api.Errno { return d.Fill(n, 2000, 0, -1, 0, wrongPens[0]) }},
		{"Scroll", api.ErrWindow, func(d *casement.Desk) api.Errno { return d.Scroll(n, 1) }},
	}
}

func rootCalls() []refusal {
	return []refusal{
		{"Delete the root", api.ErrRoot, func(d *casement.Desk) api.Errno { return d.Delete(0) }},
		{"Move the root", api.ErrRoot, func(d *casement.Desk) api.Errno { return d.Move(0, 1, 1) }},
		{"Move the root far", api.ErrRoot, func(d *casement.Desk) api.Errno { return d.Move(0, 2000, 0) }},
		{"Shape the root", api.ErrRoot, func(d *casement.Desk) api.Errno { return d.Shape(0, 2, 2) }},
		{"Shape the root to nothing", api.ErrRoot, func(d *casement.Desk) api.Errno { return d.Shape(0, 0, 0) }},
		{"Raise the root", api.ErrRoot, func(d *casement.Desk) api.Errno { return d.Raise(0, true) }},
		{"Lower the root", api.ErrRoot, func(d *casement.Desk) api.Errno { return d.Raise(0, false) }},
		{"Show the root", api.ErrRoot, func(d *casement.Desk) api.Errno { return d.Show(0, true) }},
		{"Hide the root", api.ErrRoot, func(d *casement.Desk) api.Errno { return d.Show(0, false) }},
		{"Give the root", api.ErrRoot, func(d *casement.Desk) api.Errno { return d.Give(0, 1) }},
		{"Give the root to itself", api.ErrRoot, func(d *casement.Desk) api.Errno { return d.Give(0, 0) }},
		{"Give to itself", api.ErrLoop, func(d *casement.Desk) api.Errno { return d.Give(1, 1) }},
		{"Give to its own", api.ErrLoop, func(d *casement.Desk) api.Errno { return d.Give(1, 3) }},
	}
}

func wrongPlaceCalls(x, y int) []refusal {
	long := strings.Repeat("x", api.MaxText+1)
	return []refusal{
		{"Create", api.ErrPlace, func(d *casement.Desk) api.Errno { return created(d, 0, x, y, 1, 1) }},
		{"Create, wrong size", api.ErrPlace, func(d *casement.Desk) api.Errno { return created(d, 3, x, y, 0, 0) }},
		{"Move", api.ErrPlace, func(d *casement.Desk) api.Errno { return d.Move(2, x, y) }},
		{"Write", api.ErrPlace, func(d *casement.Desk) api.Errno { return d.Write(0, x, y, "x", red) }},
		{"Write, wrong text", api.ErrPlace, func(d *casement.Desk) api.Errno { return d.Write(1, x, y, long, wrongPens[0]) }},
		{"Fill", api.ErrPlace, func(d *casement.Desk) api.Errno { return d.Fill(1, x, y, 1, 1, red) }},
		{"Fill, wrong size", api.ErrPlace, func(d *casement.Desk) api.Errno { return d.Fill(0, x, y, -1, 0, wrongPens[0]) }},
	}
}

func wrongSizeCalls(width, height int) []refusal {
	return []refusal{
		{"Create", api.ErrSize, func(d *casement.Desk) api.Errno { return created(d, 1, 0, 0, width, height) }},
		{"Shape", api.ErrSize, func(d *casement.Desk) api.Errno { return d.Shape(2, width, height) }},
		{"Resize", api.ErrSize, func(d *casement.Desk) api.Errno { return d.Resize(width, height) }},
	}
}

func wrongFillCalls() []refusal {
	var all []refusal
	for _, size := range [][2]int{{-1, 0}, {0, -1}, {api.MaxPlace + 1, 1}, {1, api.MaxPlace + 1}, {math.MinInt, 1}, {1, math.MaxInt}, {1 << 32, 1}} {
		for _, pen := range []api.Pen{{}, wrongPens[0]} {
			all = append(all, refusal{"Fill", api.ErrSize, func(d *casement.Desk) api.Errno { return d.Fill(0, 0, 0, size[0], size[1], pen) }})
		}
	}
	return all
}

func wrongTextAndPenCalls(pen api.Pen) []refusal {
	long := strings.Repeat("x", api.MaxText+1)
	return []refusal{
		{"Write long", api.ErrText, func(d *casement.Desk) api.Errno { return d.Write(0, 0, 0, long, red) }},
		{"Write long and far", api.ErrText, func(d *casement.Desk) api.Errno { return d.Write(0, 900, 900, long, pen) }},
		{"Write letters of many bytes", api.ErrText, func(d *casement.Desk) api.Errno { return d.Write(1, 0, 0, strings.Repeat("中", 67), pen) }},
		{"Write", api.ErrPen, func(d *casement.Desk) api.Errno { return d.Write(0, 0, 0, long[1:], pen) }},
		{"Write nothing", api.ErrPen, func(d *casement.Desk) api.Errno { return d.Write(1, 0, 0, "", pen) }},
		{"Write outside", api.ErrPen, func(d *casement.Desk) api.Errno { return d.Write(1, 0, 99, "x", pen) }},
		{"Fill", api.ErrPen, func(d *casement.Desk) api.Errno { return d.Fill(2, 0, 0, 1, 1, pen) }},
		{"Fill nothing", api.ErrPen, func(d *casement.Desk) api.Errno { return d.Fill(2, 0, 0, 0, api.MaxPlace, pen) }},
	}
}

func allRefusals() []refusal {
	all := slices.Concat(rootCalls(), wrongFillCalls())
	for _, n := range wrongWindows {
		all = append(all, wrongWindowCalls(n)...)
	}
	for _, place := range wrongPlaces {
		all = append(all, wrongPlaceCalls(place[0], place[1])...)
	}
	for _, size := range wrongSizes {
		all = append(all, wrongSizeCalls(size[0], size[1])...)
	}
	for _, pen := range wrongPens {
		all = append(all, wrongTextAndPenCalls(pen)...)
	}
	return all
}

// story tells what a desk shows, now and while all that is beneath is brought to light, and the next number.
func story(t *testing.T, d *casement.Desk) [][]api.Cell {
	t.Helper()
	all := [][]api.Cell{cells(d)}
	for _, n := range []int{2, 1, 3} {
		d.Raise(n, true)
		all = append(all, cells(d))
	}
	n, _ := d.Create(0, 5, 2, 1, 1)
	all = append(all, []api.Cell{{Rune: rune(n)}})
	for _, n := range []int{2, 3, 1} {
		d.Show(n, false)
		all = append(all, cells(d))
	}
	return all
}

func TestP1WhatIsRefusedChangesNothing(t *testing.T) {
	want := story(t, three(t))
	for _, r := range allRefusals() {
		d := three(t)
		if e := r.call(d); e != r.want {
			t.Errorf("%s: %d, want %d", r.name, e, r.want)
		}
		if got := story(t, d); !slices.EqualFunc(got, want, slices.Equal) {
			t.Errorf("%s, refused by %d, changed the desk", r.name, r.want)
		}
	}
}

func TestP1NoDesk(t *testing.T) {
	for _, none := range []*casement.Desk{nil, {}} {
		for _, r := range slices.Concat(wrongWindowCalls(0), wrongWindowCalls(1)) {
			if e := r.call(none); e != api.ErrWindow {
				t.Errorf("%s: %d", r.name, e)
			}
		}
		if got, e := none.Cell(-1, 0); got != (api.Cell{}) || e != api.ErrWindow {
			t.Errorf("Cell: %+v, %d", got, e)
		}
		for _, size := range [][2]int{{1, 1}, {0, math.MinInt}} {
			if e := none.Resize(size[0], size[1]); e != api.ErrWindow {
				t.Errorf("Resize(%v): %d", size, e)
			}
		}
		if got := none.Flush(); got != "" {
			t.Errorf("Flush: %q", got)
		}
	}
}

func TestP2DesksApart(t *testing.T) {
	alone := story(t, three(t))
	one, other := three(t), three(t)
	other.Write(1, 0, 0, "zzz", blue)
	other.Fill(0, 0, 0, 9, 9, blue)
	other.Give(3, 2)
	other.Raise(1, true)
	other.Show(2, false)
	other.Resize(2, 2)
	other.Delete(1)
	other.Create(0, 0, 0, 9, 9)
	if got := story(t, one); !slices.EqualFunc(got, alone, slices.Equal) {
		t.Errorf("another desk changed this one")
	}
}
