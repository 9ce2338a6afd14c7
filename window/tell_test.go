package window

import (
	"math/rand"
	"slices"
	"testing"

	"fusebox/api"
)

// wantSum asks for what a window counts together.
func wantSum(t *testing.T, w api.Window, ok, bad int64) {
	t.Helper()
	if x := Sum(w); x != (api.Cell{Ok: ok, Bad: bad}) {
		t.Errorf("Sum of a %s: %v, want %d, %d", told(w), x, ok, bad)
	}
}

// P11.3: Sum: what all cells count together, also above MaxCount.
func TestSum(t *testing.T) {
	wantSum(t, windowOf(10, 3, 0, 0), 0, 0)
	wantSum(t, windowOf(10, 3, 7, 0), 7, 0)
	wantSum(t, windowOf(10, 3, 0, 7), 0, 7)
	wantSum(t, windowOf(10, 3, 1, 20, 300, 4000, 50000, 600000), 50301, 604020)
	wantSum(t, windowOf(10, 3, top, 1, 1, top), top+1, top+1)
	wantSum(t, windowOf(10, 3, top-1, 1, top, 2, top-1, 3), 3*top-2, 6)
	for many := 1; many <= 16; many++ {
		n := int64(many)
		wantSum(t, api.Window{Width: 10, Slot: 3, Cells: make([]api.Cell, many)}, 0, 0)
		wantSum(t, api.Window{Width: 1, Slot: latest, Cells: slices.Repeat([]api.Cell{{Ok: top, Bad: top}}, many)}, n*top, n*top)
		wantSum(t, api.Window{Width: widest, Slot: 0, Cells: slices.Repeat([]api.Cell{{Ok: top - 1, Bad: 0}}, many)}, n*top-n, 0)
		wantSum(t, api.Window{Width: 1, Slot: latest, Cells: slices.Repeat([]api.Cell{{Ok: 1, Bad: top - 1}}, many)}, n, n*top-n)
	}
	wantSum(t, api.Window{Width: 10, Slot: 3, Cells: slices.Repeat([]api.Cell{{Ok: top, Bad: top}}, 17)}, 0, 0)
}

// wantPart asks for the part that went wrong.
func wantPart(t *testing.T, w api.Window, part int64) {
	t.Helper()
	if x := Part(w); x != part {
		t.Errorf("Part of a %s: %d, want %d", told(w), x, part)
	}
}

// P11.3: Part: thousandths, rounded down; 0 of none.
func TestPart(t *testing.T) {
	for _, c := range []struct{ ok, bad, part int64 }{
		{0, 0, 0}, {1, 0, 0}, {7, 0, 0}, {top, 0, 0}, {0, 1, 1000}, {0, 7, 1000}, {0, top, 1000},
		{1, 1, 500}, {3, 1, 250}, {1, 3, 750}, {2, 1, 333}, {1, 2, 666}, {6, 1, 142}, {1, 6, 857}, {5, 6, 545},
		{999, 1, 1}, {1000, 1, 0}, {998, 1, 1}, {1, 999, 999}, {1, 1000, 999}, {1, 1999, 999}, {1999, 1, 0}, {1998, 2, 1}, {1997, 3, 1}, {499, 1, 2}, {500, 1, 1},
		{top, top, 500}, {top, top - 1, 499}, {top - 1, top, 500}, {top, 1, 0}, {1, top, 999}, {top, top / 2, 333}, {top / 2, top, 666},
	} {
		wantPart(t, windowOf(10, 3, c.ok, c.bad), c.part)
		wantPart(t, windowOf(10, 3, 0, 0, c.ok, 0, 0, c.bad, 0, 0), c.part)
		wantPart(t, windowOf(10, 3, c.ok/2, c.bad-c.bad/3, c.ok-c.ok/2, c.bad/3), c.part)
		for many := 1; many <= 16; many++ {
			wantPart(t, api.Window{Width: 10, Slot: 3, Cells: slices.Repeat([]api.Cell{{Ok: c.ok, Bad: c.bad}}, many)}, c.part)
		}
	}
	full := slices.Repeat([]api.Cell{{Ok: 0, Bad: top}}, 16)
	wantPart(t, api.Window{Width: 10, Slot: 3, Cells: full}, 1000)
	full[5].Ok = 1
	wantPart(t, api.Window{Width: 10, Slot: 3, Cells: full}, 999)
}

// P11.3: Part of few calls, against what has no end to wrap round at.
func TestPartOfFew(t *testing.T) {
	for ok := range int64(70) {
		for bad := range int64(70) {
			wantPart(t, windowOf(10, 3, ok, bad), partByHand(api.Cell{Ok: ok, Bad: bad}))
		}
	}
}

// wantBeat asks for the beat of what went wrong.
func wantBeat(t *testing.T, w api.Window, a, b int64) {
	t.Helper()
	if x, y := Beat(w); x != a || y != b {
		t.Errorf("Beat of a %s: %d, %d, want %d, %d", told(w), x, y, a, b)
	}
}

// P11.3: Beat of windows of one, two, three and four cells: the while that is the longest ago stands behind the last one's place.
func TestBeat(t *testing.T) {
	for _, c := range []struct {
		bads []int64
		a, b [4]int64
	}{
		{[]int64{7}, [4]int64{7, 7, 7, 7}, [4]int64{}},
		{[]int64{7, 20}, [4]int64{20, 7, 20, 7}, [4]int64{7, 20, 7, 20}},
		{[]int64{7, 20, 300}, [4]int64{20 - 7, 300 - 20, 7 - 300, 20 - 7}, [4]int64{300, 7, 20, 300}},
		{[]int64{7, 20, 300, 4000}, [4]int64{20 - 4000, 300 - 7, 4000 - 20, 7 - 300}, [4]int64{300 - 7, 4000 - 20, 7 - 300, 20 - 4000}},
		{[]int64{top, top}, [4]int64{top, top, top, top}, [4]int64{top, top, top, top}},
		{[]int64{0, top, 0}, [4]int64{top, -top, 0, top}, [4]int64{0, 0, top, 0}},
	} {
		w := api.Window{Width: 10}
		for k, n := range c.bads {
			w.Cells = append(w.Cells, api.Cell{Ok: int64(1000 * k), Bad: n})
		}
		for slot := range 4 {
			w.Slot = int64(slot)
			wantBeat(t, w, c.a[slot], c.b[slot])
		}
	}
}

// P11.3: Beat of any number of cells, at each place of the last while.
func TestBeatOfMany(t *testing.T) {
	for many := 1; many <= 16; many++ {
		for _, slot := range []int64{0, 1, 2, 3, 4, 5, 6, 7, 8, 9, 10, 11, 12, 13, 14, 15, 16, 17, 33, 1000003, latest - 1, latest} {
			w := api.Window{Width: 10, Slot: slot, Cells: unlike(many)}
			var bads []int64
			for back := many - 1; back >= 0; back-- {
				n := int64(many)
				bads = append(bads, w.Cells[((slot-int64(back))%n+n)%n].Bad)
			}
			a, b := beatByHand(bads)
			wantBeat(t, w, a, b)
		}
	}
	pulse := api.Window{Width: 10, Slot: 15, Cells: make([]api.Cell, 16)}
	for k := range 4 {
		pulse.Cells[4*k] = api.Cell{Ok: top, Bad: top}
	}
	wantBeat(t, pulse, 4*top, 0)
	for by, want := range [][2]int64{{4 * top, 0}, {0, -4 * top}, {-4 * top, 0}, {0, 4 * top}} {
		w := pulse
		w.Slot += int64(by)
		wantBeat(t, w, want[0], want[1])
	}
}

// P11.3: what went well has no beat.
func TestBeatOfBadAlone(t *testing.T) {
	for _, w := range rightWindows() {
		a, b := Beat(w)
		w.Cells = slices.Clone(w.Cells)
		for k := range w.Cells {
			w.Cells[k].Ok = int64(k * k)
		}
		wantBeat(t, w, a, b)
	}
}

// P11.3: what windows tell, each held against what is said by hand; nothing of one that isn't right.
func TestTellsByHand(t *testing.T) {
	for _, w := range rightWindows() {
		sum, part, a, b := tellsByHand(w)
		wantTells(t, w, sum, part, a, b)
	}
	for _, w := range wrongWindows() {
		wantTells(t, w, api.Cell{}, 0, 0, 0)
	}
}

// happened is what was added: in which while, and whether it went well.
type happened struct {
	while int64
	ok    bool
}

// wantLast asks for a window to tell what happened in its last whiles, and nothing else.
func wantLast(t *testing.T, w api.Window, last int64, l []happened) {
	t.Helper()
	n := int64(len(w.Cells))
	var sum api.Cell
	bads := make([]int64, n)
	for _, h := range l {
		k := h.while - (last - n + 1)
		switch {
		case k < 0:
		case h.ok:
			sum.Ok++
		default:
			sum.Bad++
			bads[k]++
		}
	}
	a, b := beatByHand(bads)
	wantTells(t, w, sum, partByHand(sum), a, b)
	if w.Slot != last || !Right(w) {
		t.Errorf("a %s, want the last while to be %d", told(w), last)
	}
}

// widths of windows, that are gone through by turns.
var widths = []int64{1, 2, 3, 10, 60, 1000, widest}

// P11.4: whatever is added at times that don't go back, a window tells what happened in its last whiles.
func TestTimesGoOn(t *testing.T) {
	r := rand.New(rand.NewSource(11))
	for round := range 300 {
		width, many := widths[round%len(widths)], 1+r.Intn(16)
		at := r.Int63n(latest / 2)
		w, err := New(width, many, at)
		if err != api.OK {
			t.Fatal(err)
		}
		var l []happened
		for range 60 {
			if r.Intn(3) > 0 {
				at += r.Int63n(width + 1)
			}
			if r.Intn(9) == 0 {
				at += r.Int63n(width * int64(many+2))
			}
			if at > latest {
				break
			}
			if r.Intn(5) > 0 {
				ok := r.Intn(2) == 0
				w, err = Add(w, at, ok)
				l = append(l, happened{at / width, ok})
			} else {
				w, err = Move(w, at)
			}
			if err != api.OK {
				t.Fatal(err)
			}
			wantLast(t, w, at/width, l)
		}
	}
}

// P11.4: times that go back count where their while is still one of the last ones, and alter nothing else.
func TestTimesGoBack(t *testing.T) {
	r := rand.New(rand.NewSource(114))
	for round := range 300 {
		width, many := widths[round%6], 1+r.Intn(16)
		spread := width * int64(many) * 3
		at := r.Int63n(spread)
		w, err := New(width, many, at)
		if err != api.OK {
			t.Fatal(err)
		}
		last := at / width
		var l []happened
		for range 60 {
			at, ok := r.Int63n(spread), r.Intn(2) == 0
			w, err = Add(w, at, ok)
			if err != api.OK {
				t.Fatal(err)
			}
			last = max(last, at/width)
			l = append(l, happened{at / width, ok})
			wantLast(t, w, last, l)
		}
	}
}

// P11.4: windows that were answered stay, whatever becomes of those behind them, and a call answers the same again.
func TestAnswersStay(t *testing.T) {
	r := rand.New(rand.NewSource(7))
	for range 60 {
		w, _ := New(10, 1+r.Intn(16), 0)
		var all, was []api.Window
		for range 40 {
			at, ok := r.Int63n(300), r.Intn(2) == 0
			next, _ := Add(w, at, ok)
			again, _ := Add(w, at, ok)
			if !same(next, again) {
				t.Fatalf("a %s, and again a %s", told(next), told(again))
			}
			kept, _ := roomy(next)
			all, was, w = append(all, next), append(was, kept), next
		}
		for k := range all {
			if !same(all[k], was[k]) {
				t.Fatalf("a %s became a %s", told(was[k]), told(all[k]))
			}
		}
	}
}

// The chapter's example.
func TestExample(t *testing.T) {
	for start := range int64(20) {
		w, err := New(10, 2, start)
		for _, at := range []int64{5, 12, 25} {
			if err != api.OK {
				t.Fatal(err)
			}
			w, err = Add(w, at, false)
		}
		wantTells(t, w, api.Cell{Bad: 2}, 1000, 1, 1)
	}
}
