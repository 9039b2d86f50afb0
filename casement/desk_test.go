package casement_test

import (
	"slices"
	"testing"

	"casement/api"
	"casement/casement"
)

var red, blue = api.Pen{Front: 2}, api.Pen{Front: 1, Back: 5, Bold: true, Under: true, Reverse: true}

// opened makes a desk.
func opened(t *testing.T, width, height int) *casement.Desk {
	t.Helper()
	d, e := casement.NewDesk(width, height)
	if d == nil || e != api.OK {
		t.Fatalf("NewDesk(%d, %d): %d", width, height, e)
	}
	return d
}

// laid makes a window, and writes the same text into each of its lines.
func laid(t *testing.T, d *casement.Desk, parent, x, y, width, height int, text string) int {
	t.Helper()
	n, e := d.Create(parent, x, y, width, height)
	if n == 0 || e != api.OK {
		t.Fatalf("Create: %d, %d", n, e)
	}
	for line := range height {
		fine(t, d.Write(n, 0, line, text, red))
	}
	return n
}

// three makes a desk of dots with the windows 1 and 2 on it, and 3 in 1.
func three(t *testing.T) *casement.Desk {
	t.Helper()
	d := opened(t, 6, 3)
	for y := range 3 {
		fine(t, d.Write(0, 0, y, "......", api.Pen{}))
	}
	laid(t, d, 0, 1, 0, 3, 2, "aaa")
	laid(t, d, 0, 2, 1, 3, 2, "bbb")
	laid(t, d, 1, 1, 1, 4, 1, "cccc")
	wantPicture(t, d, ".aaa..|.abbb.|..bbb.")
	return d
}

func fine(t *testing.T, e api.Errno) {
	t.Helper()
	if e != api.OK {
		t.Errorf("answered %d", e)
	}
}

func wantPicture(t *testing.T, d *casement.Desk, want string) {
	t.Helper()
	if got := lines(d); got != want {
		t.Errorf("the picture is %q, want %q", got, want)
	}
}

func wantCells(t *testing.T, d *casement.Desk, want ...api.Cell) {
	t.Helper()
	if got := cells(d); !slices.Equal(got, want) {
		t.Errorf("the cells are %+v, want %+v", got, want)
	}
}

func TestP7NewDesk(t *testing.T) {
	for _, size := range [][2]int{{1, 1}, {4, 2}, {api.MaxWidth, 1}, {1, api.MaxHeight}, {api.MaxWidth, api.MaxHeight}} {
		d := opened(t, size[0], size[1])
		checkPlain(t, d, size)
		if e := d.Scroll(0, 0); e != api.OK {
			t.Errorf("the root: %d", e)
		}
		if e := d.Scroll(1, 0); e != api.ErrWindow {
			t.Errorf("another window: %d", e)
		}
	}
	for _, size := range wrongSizes {
		if d, e := casement.NewDesk(size[0], size[1]); d != nil || e != api.ErrSize {
			t.Errorf("NewDesk(%v): %v, %d", size, d, e)
		}
	}
}

func TestP8TheExample(t *testing.T) {
	d := opened(t, 4, 2)
	n, _ := d.Create(0, 1, 0, 2, 1)
	fine(t, d.Write(n, 0, 0, "xy", api.Pen{}))
	wantPicture(t, d, " xy |    ")
	fine(t, d.Move(n, 3, 1))
	wantPicture(t, d, "    |   x")
}

func TestP8Create(t *testing.T) {
	d := opened(t, 4, 1)
	fine(t, d.Write(0, 0, 0, "....", red))
	for i, x := range []int{0, 1, -1, api.MaxPlace, -api.MaxPlace} {
		if n, e := d.Create(0, x, 0, 2, 1); n != i+1 || e != api.OK {
			t.Errorf("Create at %d: %d, %d", x, n, e)
		}
	}
	// Each is shown, plain, above the ones that were there, and cut off by the desk.
	wantPicture(t, d, "   .")
	fine(t, d.Write(1, 0, 0, "ab", red))
	fine(t, d.Write(3, 0, 0, "xy", red))
	fine(t, d.Write(2, 0, 0, "cd", red))
	wantPicture(t, d, "ycd.")
	plain := opened(t, 1, 1)
	fine(t, plain.Fill(0, 0, 0, 1, 1, red))
	laid(t, plain, 0, 0, 0, 1, 1, "")
	wantCells(t, plain, api.Cell{Rune: ' '})
}

func TestP8NumbersGoOn(t *testing.T) {
	d := opened(t, 2, 2)
	laid(t, d, 0, 0, 0, 1, 1, "a")
	laid(t, d, 1, 0, 0, 1, 1, "b")
	laid(t, d, 0, 1, 1, 1, 1, "c")
	fine(t, d.Delete(3))
	if n, e := d.Create(0, api.MaxPlace+1, 0, 1, 1); n != 0 || e != api.ErrPlace {
		t.Errorf("a wrong place: %d, %d", n, e)
	}
	if n, e := d.Create(2, 0, 0, 1, 1); n != 4 || e != api.OK {
		t.Errorf("Create: %d, %d", n, e)
	}
	fine(t, d.Delete(1))
	if n, e := d.Create(0, 0, 0, 1, 1); n != 5 || e != api.OK {
		t.Errorf("Create: %d, %d", n, e)
	}
	for _, gone := range []int{1, 2, 3, 4, 6} {
		if n, e := d.Create(gone, 0, 0, 1, 1); n != 0 || e != api.ErrWindow {
			t.Errorf("Create in %d: %d, %d", gone, n, e)
		}
	}
}

func TestP8Full(t *testing.T) {
	d := opened(t, 2, 2)
	for i := 1; i < api.MaxWindows; i++ {
		// Each lies in the last one: all of them count, however deep.
		if n, e := d.Create(i-1, 0, 0, 2, 2); n != i || e != api.OK {
			t.Errorf("window %d: %d, %d", i, n, e)
		}
	}
	if n, e := d.Create(0, 0, 0, 1, 1); n != 0 || e != api.ErrFull {
		t.Errorf("one more: %d, %d", n, e)
	}
	if _, e := d.Create(0, 0, 0, 0, 1); e != api.ErrSize {
		t.Errorf("the size comes first: %d", e)
	}
	fine(t, d.Delete(14))
	for i, want := range []api.Errno{api.OK, api.OK, api.ErrFull} {
		if n, e := d.Create(13, 0, 0, 1, 1); e != want || e == api.OK && n != 16+i {
			t.Errorf("after a deletion of two: %d, %d", n, e)
		}
	}
}

func TestP8Delete(t *testing.T) {
	d := three(t)
	fine(t, d.Delete(1))
	wantPicture(t, d, "......|..bbb.|..bbb.")
	for _, gone := range []int{1, 3} {
		if e := d.Write(gone, 0, 0, "x", red); e != api.ErrWindow {
			t.Errorf("window %d: %d", gone, e)
		}
		if e := d.Delete(gone); e != api.ErrWindow {
			t.Errorf("window %d: %d", gone, e)
		}
	}
	fine(t, d.Delete(2))
	wantPicture(t, d, "......|......|......")
}

func TestP8Move(t *testing.T) {
	d := three(t)
	for _, c := range []struct {
		window, x, y int
		want         string
	}{
		{2, 5, 2, ".aaa..|.acc..|.....b"}, {2, -2, -1, "baaa..|.acc..|......"}, {2, 6, 0, ".aaa..|.acc..|......"}, {2, 0, 3, ".aaa..|.acc..|......"}, {2, -3, 0, ".aaa..|.acc..|......"},
		{1, 3, 1, "......|...aaa|...acc"}, {3, -1, 0, "......|...ccc|...aaa"}, {3, -2, 1, "......|...aaa|...cca"}, {3, -4, 0, "......|...aaa|...aaa"}, {3, 2, -1, "......|...aaa|...aaa"}, {1, -api.MaxPlace, api.MaxPlace, "......|......|......"}, {1, 0, 0, "aaa...|aaa...|......"},
	} {
		fine(t, d.Move(c.window, c.x, c.y))
		wantPicture(t, d, c.want)
	}
}

func TestP8Shape(t *testing.T) {
	d := three(t)
	fine(t, d.Show(2, false))
	for _, c := range []struct {
		window, width, height int
		want                  string
	}{
		{1, 2, 2, ".aa...|.ac...|......"}, {1, 4, 3, ".aa  .|.accc.|.    ."}, {1, 4, 1, ".aa  .|......|......"}, {1, 3, 2, ".aa ..|. cc..|......"}, {3, 1, 1, ".aa ..|. c ..|......"}, {3, 2, 1, ".aa ..|. c ..|......"}, {1, api.MaxWidth, api.MaxHeight, ".aa   |. c   |.     "},
	} {
		fine(t, d.Shape(c.window, c.width, c.height))
		wantPicture(t, d, c.want)
	}
}

func TestP8ShapeBreaks(t *testing.T) {
	d := opened(t, 3, 1)
	n := laid(t, d, 0, 0, 0, 3, 1, "")
	fine(t, d.Write(n, 0, 0, "a中", blue))
	fine(t, d.Shape(n, 2, 1))
	fine(t, d.Shape(n, 3, 1))
	wantCells(t, d, api.Cell{Rune: 'a', Pen: blue}, api.Cell{Rune: ' ', Pen: blue}, api.Cell{Rune: ' '})
}

func TestP8Raise(t *testing.T) {
	d := opened(t, 4, 1)
	for x, text := range []string{"aa", "bb", "cc"} {
		laid(t, d, 0, x, 0, 2, 1, text)
	}
	for _, c := range []struct {
		window int
		up     bool
		want   string
	}{
		{3, true, "abcc"}, {1, false, "abcc"}, {1, true, "aacc"}, {2, true, "abbc"}, {2, true, "abbc"}, {2, false, "aacc"}, {3, false, "aabc"}, {1, false, "abbc"}, {3, true, "abcc"},
	} {
		fine(t, d.Raise(c.window, c.up))
		wantPicture(t, d, c.want)
	}
}

func TestP8RaiseStaysInTheParent(t *testing.T) {
	d := three(t)
	fine(t, d.Raise(3, true))
	wantPicture(t, d, ".aaa..|.abbb.|..bbb.")
	fine(t, d.Raise(3, false))
	fine(t, d.Raise(1, true))
	wantPicture(t, d, ".aaa..|.accb.|..bbb.")
}

func TestP8Show(t *testing.T) {
	d := three(t)
	for _, c := range []struct {
		window int
		shown  bool
		want   string
	}{
		{2, false, ".aaa..|.acc..|......"}, {2, false, ".aaa..|.acc..|......"}, {1, false, "......|......|......"}, {3, true, "......|......|......"}, {3, false, "......|......|......"}, {1, true, ".aaa..|.aaa..|......"}, {3, true, ".aaa..|.acc..|......"}, {2, true, ".aaa..|.abbb.|..bbb."}, {2, true, ".aaa..|.abbb.|..bbb."},
	} {
		fine(t, d.Show(c.window, c.shown))
		wantPicture(t, d, c.want)
	}
	// What is hidden is there, and keeps its place among the others.
	fine(t, d.Show(1, false))
	fine(t, d.Write(1, 0, 0, "AAA", red))
	fine(t, d.Move(1, 2, 0))
	fine(t, d.Show(1, true))
	wantPicture(t, d, "..AAA.|..bbb.|..bbb.")
}

func TestP8Give(t *testing.T) {
	d := three(t)
	for _, c := range []struct {
		window, parent int
		want           string
	}{
		{1, 0, ".aaa..|.accb.|..bbb."}, {2, 0, ".aaa..|.abbb.|..bbb."}, {3, 0, ".aaa..|.cccc.|..bbb."}, {3, 2, ".aaa..|.abbb.|..bcc."}, {1, 3, "......|..bbb.|..bca."},
	} {
		fine(t, d.Give(c.window, c.parent))
		wantPicture(t, d, c.want)
	}
	fine(t, d.Show(3, false))
	fine(t, d.Give(3, 0))
	wantPicture(t, d, "......|..bbb.|..bbb.")
	fine(t, d.Show(3, true))
	wantPicture(t, d, "......|.caaa.|..bbb.")
}

func TestP8GiveMakesNoLoop(t *testing.T) {
	d := opened(t, 2, 1)
	laid(t, d, 0, 0, 0, 2, 1, "a")
	laid(t, d, 1, 0, 0, 2, 1, "b")
	laid(t, d, 2, 0, 0, 2, 1, "c")
	laid(t, d, 1, 1, 0, 1, 1, "d")
	for _, c := range []struct {
		window, parent int
		want           api.Errno
	}{
		{1, 1, api.ErrLoop}, {1, 2, api.ErrLoop}, {1, 3, api.ErrLoop}, {1, 4, api.ErrLoop}, {2, 3, api.ErrLoop}, {3, 3, api.ErrLoop}, {2, 4, api.OK}, {4, 3, api.ErrLoop}, {3, 0, api.OK}, {4, 3, api.OK}, {3, 2, api.ErrLoop}, {1, 2, api.OK}, {3, 1, api.ErrLoop}, {2, 0, api.OK},
	} {
		if e := d.Give(c.window, c.parent); e != c.want {
			t.Errorf("Give(%d, %d): %d, want %d", c.window, c.parent, e, c.want)
		}
	}
}
