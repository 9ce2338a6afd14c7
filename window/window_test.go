package window

import (
	"math"
	"slices"
	"testing"

	"fusebox/api"
)

// wantRight asks whether a window is right, and for it to stay.
func wantRight(t *testing.T, w api.Window, want bool) {
	t.Helper()
	given, room := roomy(w)
	was := slices.Clone(room)
	if got := Right(given); got != want || rightByHand(w) != want {
		t.Errorf("a %s is right: %v, want %v", told(w), got, want)
	}
	if !slices.Equal(room, was) || !same(given, w) {
		t.Errorf("what was handed in became %v, and was %v", room, was)
	}
}

// P11.1: windows of each number of cells.
func TestRightManyCells(t *testing.T) {
	for many := range 40 {
		wantRight(t, api.Window{Width: 10, Slot: 3, Cells: make([]api.Cell, many)}, many >= 1 && many <= 16)
		wantRight(t, api.Window{Width: 1, Slot: 0, Cells: unlike(many)}, many >= 1 && many <= 16)
	}
	wantRight(t, api.Window{Width: 10, Slot: 3}, false)
	wantRight(t, api.Window{Width: 10, Slot: 3, Cells: make([]api.Cell, 1000000)}, false)
}

// P11.1: Width is from 1 to MaxValue.
func TestRightWidth(t *testing.T) {
	for width, want := range map[int64]bool{
		math.MinInt64: false, -widest: false, -10: false, -1: false, 0: false, 1: true, 2: true, 10: true,
		1<<31 - 2: true, 1<<31 - 1: true, 1 << 31: false, 1<<31 + 1: false, 1 << 32: false, 1<<32 + 1: false, top: false, math.MaxInt64: false,
	} {
		for _, many := range manyCells {
			wantRight(t, api.Window{Width: width, Slot: 3, Cells: unlike(many)}, want)
		}
	}
}

// P11.1: Slot is from 0 to MaxTime, whatever the Width.
func TestRightSlot(t *testing.T) {
	for slot, want := range map[int64]bool{
		math.MinInt64: false, -latest: false, -2: false, -1: false, 0: true, 1: true, 1 << 32: true,
		latest - 1: true, latest: true, latest + 1: false, latest + 2: false, math.MaxInt64: false,
	} {
		for _, width := range []int64{1, 10, widest} {
			wantRight(t, api.Window{Width: width, Slot: slot, Cells: unlike(4)}, want)
		}
	}
}

// P11.1: Ok and Bad of each cell are from 0 to MaxCount.
func TestRightCells(t *testing.T) {
	for x, want := range map[int64]bool{
		math.MinInt64: false, -top: false, -2: false, -1: false, 0: true, 1: true, 1 << 31: true,
		top - 1: true, top: true, top + 1: false, top + 2: false, 1 << 62: false, math.MaxInt64: false,
	} {
		for _, many := range manyCells {
			for k := range many {
				w := api.Window{Width: 10, Slot: 3, Cells: unlike(many)}
				w.Cells[k].Ok = x
				wantRight(t, w, want)
				w.Cells[k].Bad = x
				wantRight(t, w, want)
				w.Cells[k].Ok = 6
				wantRight(t, w, want)
			}
		}
	}
}

// P11.1: windows that are right, and those that aren't.
func TestRight(t *testing.T) {
	for _, w := range rightWindows() {
		wantRight(t, w, true)
	}
	for _, w := range wrongWindows() {
		wantRight(t, w, false)
	}
}

// wantNew asks for what New answers.
func wantNew(t *testing.T, width int64, cells int, at int64, slot int64, err api.Errno) {
	t.Helper()
	var want api.Window
	if err == api.OK {
		want = api.Window{Width: width, Slot: slot, Cells: make([]api.Cell, cells)}
	}
	if w, e := New(width, cells, at); e != err || !same(w, want) {
		t.Errorf("New(%d, %d, %d): a %s and %d, want a %s and %d", width, cells, at, told(w), e, told(want), err)
	} else if err == api.OK && !Right(w) {
		t.Errorf("New(%d, %d, %d) isn't right", width, cells, at)
	}
}

// P11.1: a new window's Slot is the while of its time, rounded down, and its cells are empty.
func TestNew(t *testing.T) {
	for _, c := range []struct{ width, at, slot int64 }{
		{1, 0, 0}, {1, 1, 1}, {1, latest - 1, latest - 1}, {1, latest, latest},
		{2, 0, 0}, {2, 1, 0}, {2, 2, 1}, {2, 3, 1}, {2, latest - 1, latest/2 - 1}, {2, latest, latest / 2},
		{10, 0, 0}, {10, 9, 0}, {10, 10, 1}, {10, 19, 1}, {10, 20, 2}, {10, 27, 2}, {10, latest, 109951162777},
		{1000, 999, 0}, {1000, 1000, 1},
		{widest, 0, 0}, {widest, widest - 1, 0}, {widest, widest, 1}, {widest, 2*widest - 1, 1}, {widest, 2 * widest, 2},
		{widest, 512*widest - 1, 511}, {widest, 512 * widest, 512}, {widest, latest, 512},
		{widest - 1, widest - 1, 1}, {widest - 1, latest, 512},
	} {
		for many := 1; many <= 16; many++ {
			wantNew(t, c.width, many, c.at, c.slot, api.OK)
		}
	}
}

// P11.1: New's errors: a width, a number of cells or a time that may not be, alone and together.
func TestNewErrors(t *testing.T) {
	wrongWidths := []int64{0, -1, -2, -10, math.MinInt64, widest + 1, widest + 2, 1 << 32, 1<<32 + 1, math.MaxInt64}
	wrongCells := []int{0, -1, -2, -16, math.MinInt32, math.MinInt, 17, 18, 32, 1 << 20, math.MaxInt32, math.MaxInt}
	for _, width := range append([]int64{1, 10, widest}, wrongWidths...) {
		for _, cells := range append([]int{1, 4, 16}, wrongCells...) {
			for _, at := range append([]int64{0, 25, latest}, wrongTimes...) {
				if slices.Contains(wrongWidths, width) || slices.Contains(wrongCells, cells) || slices.Contains(wrongTimes, at) {
					wantNew(t, width, cells, at, 0, api.ErrArg)
				} else {
					wantNew(t, width, cells, at, at/width, api.OK)
				}
			}
		}
	}
}

// P11.1: two new windows share nothing.
func TestNewMemory(t *testing.T) {
	a, _ := New(10, 4, 25)
	for k := range a.Cells {
		a.Cells[k] = api.Cell{Ok: 5, Bad: 6}
	}
	wantNew(t, 10, 4, 25, 2, api.OK)
}

// P11.1: Move: the cells of all whiles behind Slot are emptied, as far as the time's, at places that begin again.
func TestMove(t *testing.T) {
	three := windowOf(10, 4, 1, 2, 3, 4, 5, 6)
	for _, c := range []struct {
		w, want api.Window
		at      int64
	}{
		{three, three, 0}, {three, three, 9}, {three, three, 10}, {three, three, 20}, {three, three, 29}, {three, three, 30}, {three, three, 39}, {three, three, 40}, {three, three, 49},
		{three, windowOf(10, 5, 1, 2, 3, 4, 0, 0), 50}, {three, windowOf(10, 5, 1, 2, 3, 4, 0, 0), 59},
		{three, windowOf(10, 6, 0, 0, 3, 4, 0, 0), 60}, {three, windowOf(10, 6, 0, 0, 3, 4, 0, 0), 69},
		{three, windowOf(10, 7, 0, 0, 0, 0, 0, 0), 70}, {three, windowOf(10, 7, 0, 0, 0, 0, 0, 0), 79},
		{three, windowOf(10, 8, 0, 0, 0, 0, 0, 0), 80}, {three, windowOf(10, 9, 0, 0, 0, 0, 0, 0), 90}, {three, windowOf(10, 100, 0, 0, 0, 0, 0, 0), 1009},
		{three, windowOf(10, 109951162777, 0, 0, 0, 0, 0, 0), latest},
		{windowOf(1, 0, 7, 8), windowOf(1, 0, 7, 8), 0}, {windowOf(1, 0, 7, 8), windowOf(1, 1, 0, 0), 1}, {windowOf(1, 0, 7, 8), windowOf(1, latest, 0, 0), latest},
		{windowOf(1, latest, 7, 8), windowOf(1, latest, 7, 8), latest}, {windowOf(1, latest, 7, 8), windowOf(1, latest, 7, 8), 0},
		{windowOf(1, latest-1, 7, 8, 9, 9), windowOf(1, latest, 0, 0, 9, 9), latest},
		{windowOf(widest, 0, 7, 8, 9, 9), windowOf(widest, 0, 7, 8, 9, 9), widest - 1}, {windowOf(widest, 0, 7, 8, 9, 9), windowOf(widest, 1, 7, 8, 0, 0), widest},
		{windowOf(widest, 0, 7, 8, 9, 9), windowOf(widest, 512, 0, 0, 0, 0), latest}, {windowOf(widest, 511, 7, 8, 9, 9), windowOf(widest, 512, 0, 0, 9, 9), latest},
		{windowOf(10, latest, 7, 8, 9, 9), windowOf(10, latest, 7, 8, 9, 9), latest},
		{windowOf(10, 0, top, top, top, 0, 0, top), windowOf(10, 1, top, top, 0, 0, 0, top), 10},
	} {
		wantMoved(t, c.w, c.at, c.want, api.OK)
	}
}

// P11.1: Move by as many whiles as are asked for, from each place: those that are still counted stay, the others are empty.
func TestMoveByWhiles(t *testing.T) {
	for many := 1; many <= 16; many++ {
		for slot := range int64(2*many + 2) {
			w := api.Window{Width: 10, Slot: slot, Cells: unlike(many)}
			for by := range int64(2*many + 3) {
				want := api.Window{Width: 10, Slot: slot + by, Cells: unlike(many)}
				for k := int64(1); k <= by; k++ {
					want.Cells[int(slot+k)%many] = api.Cell{}
				}
				wantMoved(t, w, 10*(slot+by), want, api.OK)
				wantMoved(t, w, 10*(slot+by)+9, want, api.OK)
				wantMoved(t, w, max(10*(slot-by), 0), w, api.OK)
			}
		}
	}
}

// P11.1: Move of windows that aren't right, and to times that may not be: the window as it is.
func TestMoveErrors(t *testing.T) {
	for _, w := range wrongWindows() {
		for _, at := range []int64{-1, 0, 10, 35, 1000, latest, latest + 1} {
			wantMoved(t, w, at, w, api.ErrArg)
		}
	}
	for _, w := range rightWindows() {
		for _, at := range wrongTimes {
			wantMoved(t, w, at, w, api.ErrArg)
		}
	}
}

// P11.1: Move of many windows to times around their last while, each held against what is said by hand; twice is as once.
func TestMoveByHand(t *testing.T) {
	for _, w := range rightWindows() {
		for _, at := range someTimes(w) {
			want, err := movedByHand(w, at)
			wantMoved(t, w, at, want, err)
			if err == api.OK {
				wantMoved(t, want, at, want, api.OK)
				wantRight(t, want, true)
			}
		}
	}
}
