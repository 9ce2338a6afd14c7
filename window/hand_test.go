package window

import (
	"math"
	"math/big"
	"slices"
	"strconv"
	"testing"

	"fusebox/api"
)

// The limits as the document says them, so that a wrong constant shows as well.
const (
	top       = int64(1) << 40
	latest    = int64(1) << 40
	widest    = int64(1)<<31 - 1
	mostCells = 16
)

// manyCells that a window may have.
var manyCells = []int{1, 2, 3, 4, 5, 7, 8, 15, 16}

// wrongTimes may not be.
var wrongTimes = []int64{-1, -2, -10, -top, math.MinInt64, math.MinInt64 + 1, latest + 1, latest + 2, latest * 2, math.MaxInt64 - 1, math.MaxInt64}

// same in all fields.
func same(a, b api.Window) bool {
	return a.Width == b.Width && a.Slot == b.Slot && slices.Equal(a.Cells, b.Cells)
}

// told as text.
func told(w api.Window) string {
	s := "window of width " + strconv.FormatInt(w.Width, 10) + " at " + strconv.FormatInt(w.Slot, 10) + " with " + strconv.Itoa(len(w.Cells)) + " cells"
	for _, c := range w.Cells[:min(len(w.Cells), mostCells+1)] {
		s += " " + strconv.FormatInt(c.Ok, 10) + "/" + strconv.FormatInt(c.Bad, 10)
	}
	return s
}

// windowOf cells, given as numbers that went well and didn't, by turns.
func windowOf(width, slot int64, l ...int64) api.Window {
	w := api.Window{Width: width, Slot: slot}
	for k := 0; k+1 < len(l); k += 2 {
		w.Cells = append(w.Cells, api.Cell{Ok: l[k], Bad: l[k+1]})
	}
	return w
}

// unlike cells, no two numbers of which are alike.
func unlike(many int) []api.Cell {
	var l []api.Cell
	for k := range many {
		l = append(l, api.Cell{Ok: int64(1000 + 7*k), Bad: int64(1 + k*k*k)})
	}
	return l
}

// rightWindows are right: of each number of cells, of whiles at the beginning, further on and at the end.
func rightWindows() []api.Window {
	var l []api.Window
	for _, many := range manyCells {
		n := int64(many)
		for _, width := range []int64{1, 2, 10, 1000, widest - 1, widest} {
			for _, slot := range []int64{0, 1, n - 1, n, n + 1, 37, latest / widest, latest/width - 1, latest / width, latest - 1, latest} {
				l = append(l, api.Window{Width: width, Slot: slot, Cells: unlike(many)})
			}
		}
		l = append(l, api.Window{Width: 10, Slot: 5, Cells: make([]api.Cell, many)})
		l = append(l, api.Window{Width: 10, Slot: 5, Cells: slices.Repeat([]api.Cell{{Ok: top, Bad: top}}, many)})
		l = append(l, api.Window{Width: 10, Slot: 5, Cells: slices.Repeat([]api.Cell{{Ok: top, Bad: 0}, {Ok: 0, Bad: top}}, many)[:many]})
		l = append(l, api.Window{Width: 10, Slot: 5, Cells: slices.Repeat([]api.Cell{{Ok: 3, Bad: top - 1}, {Ok: top - 1, Bad: 4}}, many)[:many]})
	}
	return l
}

// wrongWindows are not right, by each reason and by several at once.
func wrongWindows() []api.Window {
	l := []api.Window{
		{}, {Width: 10}, {Width: 10, Slot: 3, Cells: []api.Cell{}},
		{Width: 10, Cells: unlike(17)}, {Width: 10, Cells: unlike(18)}, {Width: 10, Cells: unlike(32)}, {Width: 10, Cells: make([]api.Cell, 17)}, {Width: 10, Cells: make([]api.Cell, 100000)},
		{Width: -1, Slot: -1, Cells: []api.Cell{{Ok: -1, Bad: -1}}}, {Slot: latest + 1, Cells: make([]api.Cell, 17)},
	}
	for _, many := range manyCells {
		for _, width := range []int64{0, -1, -2, -10, math.MinInt64, widest + 1, widest + 2, 1 << 32, 1<<32 + 10, math.MaxInt64} {
			l = append(l, api.Window{Width: width, Slot: 3, Cells: unlike(many)})
		}
		for _, slot := range wrongTimes {
			l = append(l, api.Window{Width: 10, Slot: slot, Cells: unlike(many)})
		}
		for k := range many {
			for _, x := range []int64{-1, -2, -top, math.MinInt64, top + 1, top + 2, 1 << 62, math.MaxInt64} {
				for _, c := range []api.Cell{{Ok: x, Bad: 5}, {Ok: 5, Bad: x}, {Ok: x, Bad: x}} {
					w := api.Window{Width: 10, Slot: 3, Cells: unlike(many)}
					w.Cells[k] = c
					l = append(l, w)
				}
			}
		}
	}
	return l
}

// rightByHand says it by the chapter's words.
func rightByHand(w api.Window) bool {
	for _, c := range w.Cells {
		if c.Ok < 0 || c.Ok > top || c.Bad < 0 || c.Bad > top {
			return false
		}
	}
	return w.Width >= 1 && w.Width <= widest && w.Slot >= 0 && w.Slot <= latest && len(w.Cells) >= 1 && len(w.Cells) <= mostCells
}

// cellsByHand are a window's cells by their whiles, those that it counts alone.
func cellsByHand(w api.Window) map[int64]api.Cell {
	m := map[int64]api.Cell{}
	n := int64(len(w.Cells))
	for while := w.Slot - n + 1; while <= w.Slot; while++ {
		m[while] = w.Cells[(while+n)%n]
	}
	return m
}

// movedByHand: the window that counts the last whiles at a time, by the cells that the whiles had.
func movedByHand(w api.Window, at int64) (api.Window, api.Errno) {
	if !rightByHand(w) || at < 0 || at > latest {
		return w, api.ErrArg
	}
	m, n := cellsByHand(w), int64(len(w.Cells))
	moved := api.Window{Width: w.Width, Slot: w.Slot, Cells: make([]api.Cell, n)}
	if now := (at - at%w.Width) / w.Width; now > w.Slot {
		moved.Slot = now
	}
	for while := moved.Slot - n + 1; while <= moved.Slot; while++ {
		moved.Cells[(while+n)%n] = m[while]
	}
	return moved, api.OK
}

// addedByHand: the window behind what happened.
func addedByHand(w api.Window, at int64, ok bool) (api.Window, api.Errno) {
	w, err := movedByHand(w, at)
	if err != api.OK {
		return w, err
	}
	now, n := (at-at%w.Width)/w.Width, int64(len(w.Cells))
	for while := w.Slot - n + 1; while <= w.Slot; while++ {
		c := &w.Cells[(while+n)%n]
		if while == now && ok && c.Ok != top {
			c.Ok++
		}
		if while == now && !ok && c.Bad != top {
			c.Bad++
		}
	}
	return w, api.OK
}

// partByHand is worked out with no end to wrap round at.
func partByHand(c api.Cell) int64 {
	if c.Ok == 0 && c.Bad == 0 {
		return 0
	}
	all := new(big.Int).Add(big.NewInt(c.Ok), big.NewInt(c.Bad))
	part := new(big.Int).Mul(big.NewInt(c.Bad), big.NewInt(1000))
	return part.Div(part, all).Int64()
}

// beatByHand of the numbers from the while that is the longest ago on: those of every other place are taken from those between them.
func beatByHand(bads []int64) (int64, int64) {
	var sums [4]int64
	for k, n := range bads {
		sums[k%4] += n
	}
	return sums[0] - sums[2], sums[1] - sums[3]
}

// tellsByHand: what a window's Sum, Part and Beat are, by the cells of its whiles.
func tellsByHand(w api.Window) (sum api.Cell, part, a, b int64) {
	if !rightByHand(w) {
		return
	}
	m := cellsByHand(w)
	var bads []int64
	for while := w.Slot - int64(len(w.Cells)) + 1; while <= w.Slot; while++ {
		sum.Ok += m[while].Ok
		sum.Bad += m[while].Bad
		bads = append(bads, m[while].Bad)
	}
	a, b = beatByHand(bads)
	return sum, partByHand(sum), a, b
}

// roomy is the same window, with spare room behind its cells, and all of that room.
func roomy(w api.Window) (api.Window, []api.Cell) {
	room := append(slices.Clone(w.Cells), api.Cell{Ok: 71, Bad: -72}, api.Cell{Ok: -73, Bad: 74})
	w.Cells = room[:len(w.Cells)]
	return w, room
}

// wantWindow asks for what a call makes of a window, and for what was handed in to stay, whatever becomes of the answer.
func wantWindow(t *testing.T, what string, w api.Window, do func(api.Window) (api.Window, api.Errno), want api.Window, err api.Errno) {
	t.Helper()
	given, room := roomy(w)
	was := slices.Clone(room)
	got, e := do(given)
	if e != err || !same(got, want) {
		t.Errorf("%s of a %s: %s and %d, want %s and %d", what, told(w), told(got), e, told(want), err)
	}
	if !slices.Equal(room, was) || !same(given, w) {
		t.Errorf("%s: what was handed in became %v, and was %v", what, room, was)
	}
	all := got.Cells[:cap(got.Cells)]
	for k := range all {
		all[k] = api.Cell{Ok: -5, Bad: -6}
	}
	if !slices.Equal(room, was) {
		t.Errorf("%s: the answer is not new memory", what)
	}
}

// wantMoved asks for what Move answers.
func wantMoved(t *testing.T, w api.Window, at int64, want api.Window, err api.Errno) {
	t.Helper()
	what := "Move to " + strconv.FormatInt(at, 10)
	wantWindow(t, what, w, func(w api.Window) (api.Window, api.Errno) { return Move(w, at) }, want, err)
}

// wantAdded asks for what Add answers.
func wantAdded(t *testing.T, w api.Window, at int64, ok bool, want api.Window, err api.Errno) {
	t.Helper()
	what := "Add of " + strconv.FormatBool(ok) + " at " + strconv.FormatInt(at, 10)
	wantWindow(t, what, w, func(w api.Window) (api.Window, api.Errno) { return Add(w, at, ok) }, want, err)
}

// wantTells asks for a window's Sum, Part and Beat, and for it to stay.
func wantTells(t *testing.T, w api.Window, sum api.Cell, part, a, b int64) {
	t.Helper()
	given, room := roomy(w)
	was := slices.Clone(room)
	if x := Sum(given); x != sum {
		t.Errorf("Sum of a %s: %v, want %v", told(w), x, sum)
	}
	if x := Part(given); x != part {
		t.Errorf("Part of a %s: %d, want %d", told(w), x, part)
	}
	if x, y := Beat(given); x != a || y != b {
		t.Errorf("Beat of a %s: %d, %d, want %d, %d", told(w), x, y, a, b)
	}
	if !slices.Equal(room, was) || !same(given, w) {
		t.Errorf("what was handed in became %v, and was %v", room, was)
	}
}

// someTimes to go on to: the first and the last tick of whiles around a window's last one, and the edges of times.
func someTimes(w api.Window) []int64 {
	l := append([]int64{0, 1, latest - 1, latest}, wrongTimes...)
	n := int64(len(w.Cells))
	if w.Width < 1 || w.Slot < 0 || w.Slot > latest/w.Width {
		return l
	}
	for _, by := range []int64{-2*n - 1, -2 * n, -n - 1, -n, 1 - n, 2 - n, -2, -1, 0, 1, 2, n - 1, n, n + 1, 2*n - 1, 2 * n, 2*n + 1, 1000*n + 3} {
		first := (w.Slot + by) * w.Width
		l = append(l, first, first+w.Width-1)
	}
	return l
}
