package window

import (
	"testing"

	"fusebox/api"
)

// P11.2: one more in the cell of the time's while: the last one, or one of those that are counted.
func TestAdd(t *testing.T) {
	three := windowOf(10, 4, 1, 2, 3, 4, 5, 6)
	for _, c := range []struct {
		at      int64
		ok, bad api.Window
	}{
		{40, windowOf(10, 4, 1, 2, 4, 4, 5, 6), windowOf(10, 4, 1, 2, 3, 5, 5, 6)},
		{49, windowOf(10, 4, 1, 2, 4, 4, 5, 6), windowOf(10, 4, 1, 2, 3, 5, 5, 6)},
		{30, windowOf(10, 4, 2, 2, 3, 4, 5, 6), windowOf(10, 4, 1, 3, 3, 4, 5, 6)},
		{39, windowOf(10, 4, 2, 2, 3, 4, 5, 6), windowOf(10, 4, 1, 3, 3, 4, 5, 6)},
		{20, windowOf(10, 4, 1, 2, 3, 4, 6, 6), windowOf(10, 4, 1, 2, 3, 4, 5, 7)},
		{29, windowOf(10, 4, 1, 2, 3, 4, 6, 6), windowOf(10, 4, 1, 2, 3, 4, 5, 7)},
		{19, three, three}, {10, three, three}, {9, three, three}, {0, three, three},
		{50, windowOf(10, 5, 1, 2, 3, 4, 1, 0), windowOf(10, 5, 1, 2, 3, 4, 0, 1)},
		{59, windowOf(10, 5, 1, 2, 3, 4, 1, 0), windowOf(10, 5, 1, 2, 3, 4, 0, 1)},
		{60, windowOf(10, 6, 1, 0, 3, 4, 0, 0), windowOf(10, 6, 0, 1, 3, 4, 0, 0)},
		{70, windowOf(10, 7, 0, 0, 1, 0, 0, 0), windowOf(10, 7, 0, 0, 0, 1, 0, 0)},
		{80, windowOf(10, 8, 0, 0, 0, 0, 1, 0), windowOf(10, 8, 0, 0, 0, 0, 0, 1)},
		{1009, windowOf(10, 100, 0, 0, 1, 0, 0, 0), windowOf(10, 100, 0, 0, 0, 1, 0, 0)},
	} {
		wantAdded(t, three, c.at, true, c.ok, api.OK)
		wantAdded(t, three, c.at, false, c.bad, api.OK)
	}
}

// P11.2: at the edges of times and of widths.
func TestAddAtEdges(t *testing.T) {
	for _, c := range []struct {
		w    api.Window
		at   int64
		ok   bool
		want api.Window
	}{
		{windowOf(1, 0, 0, 0), 0, true, windowOf(1, 0, 1, 0)},
		{windowOf(1, 0, 0, 0), 0, false, windowOf(1, 0, 0, 1)},
		{windowOf(1, 0, 5, 6), 1, true, windowOf(1, 1, 1, 0)},
		{windowOf(1, 1, 5, 6), 0, true, windowOf(1, 1, 5, 6)},
		{windowOf(1, latest, 5, 6), latest, false, windowOf(1, latest, 5, 7)},
		{windowOf(1, latest, 5, 6), latest - 1, false, windowOf(1, latest, 5, 6)},
		{windowOf(1, latest, 5, 6, 7, 8), latest - 1, false, windowOf(1, latest, 5, 6, 7, 9)},
		{windowOf(1, latest, 5, 6, 7, 8), latest - 2, false, windowOf(1, latest, 5, 6, 7, 8)},
		{windowOf(1, 0, 5, 6, 7, 8), latest, true, windowOf(1, latest, 1, 0, 0, 0)},
		{windowOf(widest, 0, 5, 6, 7, 8), latest, true, windowOf(widest, 512, 1, 0, 0, 0)},
		{windowOf(widest, 512, 5, 6, 7, 8), latest, true, windowOf(widest, 512, 6, 6, 7, 8)},
		{windowOf(widest, 512, 5, 6, 7, 8), 512*widest - 1, true, windowOf(widest, 512, 5, 6, 8, 8)},
		{windowOf(widest, 512, 5, 6, 7, 8), 511*widest - 1, true, windowOf(widest, 512, 5, 6, 7, 8)},
		{windowOf(10, latest, 5, 6, 7, 8), latest, true, windowOf(10, latest, 5, 6, 7, 8)},
		{windowOf(10, 0, 0, 0, 0, 0, 0, 0, 0, 0), 9, false, windowOf(10, 0, 0, 1, 0, 0, 0, 0, 0, 0)},
	} {
		wantAdded(t, c.w, c.at, c.ok, c.want, api.OK)
	}
}

// P11.2: each while that may be added to, from each place: those that are counted, and none else.
func TestAddByWhiles(t *testing.T) {
	for many := 1; many <= 16; many++ {
		for slot := range int64(2*many + 2) {
			w := api.Window{Width: 3, Slot: slot, Cells: unlike(many)}
			for while := range slot + 1 {
				ok, bad := api.Window{Width: 3, Slot: slot, Cells: unlike(many)}, api.Window{Width: 3, Slot: slot, Cells: unlike(many)}
				if slot-while < int64(many) {
					ok.Cells[int(while)%many].Ok++
					bad.Cells[int(while)%many].Bad++
				}
				for tick := range int64(3) {
					wantAdded(t, w, 3*while+tick, true, ok, api.OK)
					wantAdded(t, w, 3*while+tick, false, bad, api.OK)
				}
			}
		}
	}
}

// P11.2: a cell at MaxCount stays, and one just below it comes to it.
func TestAddAtMaxCount(t *testing.T) {
	for _, c := range []struct{ ok, bad int64 }{{top, top}, {top, 0}, {0, top}, {top - 1, top}, {top, top - 1}, {top - 1, top - 1}, {top - 2, top - 2}} {
		w := windowOf(10, 3, 4, 5, c.ok, c.bad)
		wantAdded(t, w, 30, true, windowOf(10, 3, 4, 5, min(c.ok+1, top), c.bad), api.OK)
		wantAdded(t, w, 30, false, windowOf(10, 3, 4, 5, c.ok, min(c.bad+1, top)), api.OK)
		wantAdded(t, w, 29, true, windowOf(10, 3, 5, 5, c.ok, c.bad), api.OK)
		wantAdded(t, w, 40, true, windowOf(10, 4, 1, 0, c.ok, c.bad), api.OK)
		wantAdded(t, w, 50, false, windowOf(10, 5, 0, 0, 0, 1), api.OK)
	}
	w := windowOf(10, 0, top-3, top-2)
	for range 6 {
		w, _ = Add(w, 5, true)
		w, _ = Add(w, 5, false)
	}
	if want := windowOf(10, 0, top, top); !same(w, want) {
		t.Errorf("a %s, want a %s", told(w), told(want))
	}
}

// P11.2: Add to windows that aren't right, and at times that may not be: the window as it is.
func TestAddErrors(t *testing.T) {
	for _, ok := range []bool{true, false} {
		for _, w := range wrongWindows() {
			for _, at := range []int64{-1, 0, 10, 35, 1000, latest, latest + 1} {
				wantAdded(t, w, at, ok, w, api.ErrArg)
			}
		}
		for _, w := range rightWindows() {
			for _, at := range wrongTimes {
				wantAdded(t, w, at, ok, w, api.ErrArg)
			}
		}
	}
}

// P11.2: Add to many windows at times around their last while, each held against what is said by hand.
func TestAddByHand(t *testing.T) {
	for _, w := range rightWindows() {
		for _, at := range someTimes(w) {
			for _, ok := range []bool{true, false} {
				want, err := addedByHand(w, at, ok)
				wantAdded(t, w, at, ok, want, err)
				wantRight(t, want, true)
			}
		}
	}
}

// P11.2: Add goes on just as Move does, and what was moved ahead takes just the same.
func TestAddBehindMove(t *testing.T) {
	for _, w := range rightWindows() {
		for _, at := range someTimes(w) {
			if at < 0 || at > latest {
				continue
			}
			moved, err := Move(w, at)
			if err != api.OK {
				t.Fatal(err)
			}
			want, _ := Add(w, at, false)
			wantAdded(t, moved, at, false, want, api.OK)
			if want.Slot != moved.Slot {
				t.Errorf("Add at %d goes on to %d, and Move to %d", at, want.Slot, moved.Slot)
			}
		}
	}
}
