package count

import (
	"math"
	"math/big"
	"slices"
	"testing"
)

// top is MaxCount as the document says it, so that a wrong constant shows as well.
const top = int64(1) << 40

// edges are numbers around each end that the document or the type has.
var edges = []int64{
	math.MinInt64, math.MinInt64 + 1, -top - 1, -top, -7, -1,
	0, 1, 2, 7, top / 2, top/2 + 1, top - 1,
	top, top + 1, 1 << 62, math.MaxInt64 - 1, math.MaxInt64,
}

// holdBig works a held number out with no end to wrap round at.
func holdBig(n *big.Int) *big.Int {
	if n.Sign() < 0 {
		return new(big.Int)
	}
	if end := big.NewInt(top); n.Cmp(end) > 0 {
		return end
	}
	return n
}

func held(n int64) *big.Int { return holdBig(big.NewInt(n)) }

func upBig(a, b int64) int64 {
	return holdBig(new(big.Int).Add(held(a), held(b))).Int64()
}

func downBig(a, b int64) int64 {
	return holdBig(new(big.Int).Sub(held(a), held(b))).Int64()
}

// P1.1: Hold.
func TestHold(t *testing.T) {
	for _, c := range []struct{ n, want int64 }{
		{math.MinInt64, 0}, {math.MinInt64 + 1, 0}, {-top, 0}, {-5, 0}, {-1, 0},
		{0, 0}, {1, 1}, {9, 9}, {1 << 20, 1 << 20}, {1<<31 + 5, 1<<31 + 5},
		{top - 1, top - 1}, {top, top}, {top + 1, top}, {2 * top, top},
		{math.MaxInt64 - 1, top}, {math.MaxInt64, top},
	} {
		if x := Hold(c.n); x != c.want {
			t.Errorf("Hold(%d) = %d, want %d", c.n, x, c.want)
		}
	}
}

// P1.1: what is held stays as it is when it is held again.
func TestHoldTwice(t *testing.T) {
	for _, n := range edges {
		if once, twice := Hold(n), Hold(Hold(n)); once != twice {
			t.Errorf("Hold(%d) = %d, held again %d", n, once, twice)
		}
	}
}

// P1.2: Up.
func TestUp(t *testing.T) {
	for _, c := range []struct{ a, b, want int64 }{
		{0, 0, 0}, {2, 3, 5}, {3, 2, 5}, {0, 8, 8}, {8, 0, 8},
		{-2, 4, 4}, {4, -2, 4}, {-2, -4, 0}, {-7, 5, 5},
		{top - 3, 2, top - 1}, {top - 3, 3, top}, {top - 3, 4, top},
		{top, 5, top}, {5, top, top}, {top, -5, top}, {-5, top, top},
		{top + 9, 0, top}, {top + 9, -9, top}, {top / 2, top / 2, top}, {top, top, top},
		{math.MaxInt64, math.MaxInt64, top}, {math.MaxInt64, 1, top}, {1, math.MaxInt64, top},
		{math.MinInt64, math.MinInt64, 0}, {math.MinInt64, -1, 0},
		{math.MinInt64, 6, 6}, {6, math.MinInt64, 6},
		{math.MinInt64, math.MaxInt64, top}, {math.MaxInt64, math.MinInt64, top},
	} {
		if x := Up(c.a, c.b); x != c.want {
			t.Errorf("Up(%d, %d) = %d, want %d", c.a, c.b, x, c.want)
		}
	}
}

// P1.2: Down.
func TestDown(t *testing.T) {
	for _, c := range []struct{ a, b, want int64 }{
		{0, 0, 0}, {5, 3, 2}, {3, 5, 0}, {5, 7, 0}, {8, 0, 8}, {0, 8, 0}, {6, 6, 0},
		{-2, 4, 0}, {4, -2, 4}, {-4, -2, 0}, {-2, -4, 0},
		{top, 1, top - 1}, {top, top, 0}, {top, top - 1, 1}, {top - 1, top, 0},
		{top + 9, 1, top - 1}, {1 << 50, 1, top - 1}, {top, top + 9, 0}, {top + 9, top, 0},
		{top, -5, top}, {top + 9, top + 2, 0},
		{math.MaxInt64, 1, top - 1}, {math.MaxInt64, math.MaxInt64, 0},
		{1, math.MaxInt64, 0}, {0, math.MinInt64, 0}, {6, math.MinInt64, 6},
		{math.MinInt64, 1, 0}, {math.MinInt64, math.MinInt64, 0},
		{math.MaxInt64, math.MinInt64, top}, {math.MinInt64, math.MaxInt64, 0},
	} {
		if x := Down(c.a, c.b); x != c.want {
			t.Errorf("Down(%d, %d) = %d, want %d", c.a, c.b, x, c.want)
		}
	}
}

// P1.2: all pairs of edges, against sums and differences that have no end.
func TestPairsOfEdges(t *testing.T) {
	for _, a := range edges {
		for _, b := range edges {
			if x, want := Up(a, b), upBig(a, b); x != want {
				t.Errorf("Up(%d, %d) = %d, want %d", a, b, x, want)
			}
			if x, want := Down(a, b), downBig(a, b); x != want {
				t.Errorf("Down(%d, %d) = %d, want %d", a, b, x, want)
			}
		}
	}
}

// P1.3: Total.
func TestTotal(t *testing.T) {
	for _, c := range []struct {
		l    []int64
		want int64
	}{
		{nil, 0}, {[]int64{}, 0}, {[]int64{0}, 0}, {[]int64{7}, 7}, {[]int64{-7}, 0},
		{[]int64{1, 2, 3, 4}, 10}, {[]int64{3, -4, 5}, 8}, {[]int64{-3, -4, -5}, 0},
		{[]int64{top}, top}, {[]int64{top + 1}, top}, {[]int64{math.MaxInt64}, top}, {[]int64{math.MinInt64}, 0},
		{[]int64{top - 3, 1, 1}, top - 1}, {[]int64{top - 3, 1, 2}, top}, {[]int64{top - 3, 1, 3}, top},
		{[]int64{top, -5}, top}, {[]int64{5, top, -5, 5}, top},
		{[]int64{math.MaxInt64, math.MaxInt64, math.MaxInt64}, top},
		{[]int64{math.MinInt64, math.MaxInt64, math.MinInt64}, top},
		{[]int64{math.MinInt64, 4, math.MinInt64, 5}, 9},
		{slices.Repeat([]int64{top / 4}, 3), 3 * (top / 4)},
		{slices.Repeat([]int64{top / 4}, 5), top},
		{slices.Repeat([]int64{3}, 1000), 3000},
	} {
		if x := Total(c.l...); x != c.want {
			t.Errorf("Total(%d) = %d, want %d", c.l, x, c.want)
		}
	}
	if x := Total(); x != 0 {
		t.Errorf("Total() = %d, want 0", x)
	}
	if x := Total(3, -4, 5); x != 8 {
		t.Errorf("Total(3, -4, 5) = %d, want 8", x)
	}
}

// P1.3: wherever a row is parted, the totals of its parts are the row's when they are added, and the row stays as it was.
func TestTotalOfParts(t *testing.T) {
	row := []int64{5, -3, top / 2, 0, math.MinInt64, 9, top/2 - 20, 4, math.MaxInt64, -1}
	was := slices.Clone(row)
	for k := range len(row) + 1 {
		ahead, behind := Total(row[:k]...), Total(row[k:]...)
		if x, want := Up(ahead, behind), Total(row...); x != want {
			t.Errorf("parted at %d: %d and %d make %d, want %d", k, ahead, behind, x, want)
		}
		one := int64(0)
		for _, n := range row[:k] {
			one = upBig(one, n)
		}
		if ahead != one {
			t.Errorf("Total of the first %d is %d, want %d", k, ahead, one)
		}
		if !slices.Equal(row, was) {
			t.Fatalf("parted at %d: the row is now %d", k, row)
		}
	}
}

// P1.3: two parts of one row that overlap are each counted by their own numbers.
func TestTotalOfOverlappingParts(t *testing.T) {
	row := []int64{1, 20, 300, 4000, 50000}
	if a, b := Total(row[:3]...), Total(row[1:]...); a != 321 || b != 54320 {
		t.Errorf("Total of both parts: %d, %d", a, b)
	}
	if x := Total(row[1:1]...); x != 0 {
		t.Errorf("Total of no part: %d", x)
	}
}

// P1.4: whatever is added, a number doesn't become less and doesn't pass MaxCount.
func TestOnlyGrows(t *testing.T) {
	for _, a := range edges {
		for _, b := range edges {
			if x := Up(a, b); x < Hold(a) || x < Hold(b) || x > top {
				t.Errorf("Up(%d, %d) = %d", a, b, x)
			}
		}
	}
	last := int64(0)
	for k := range len(edges) + 1 {
		x := Total(edges[:k]...)
		if x < last || x > top {
			t.Errorf("Total of the first %d is %d, behind %d", k, x, last)
		}
		last = x
	}
	if last != top {
		t.Errorf("Total of all edges is %d, want %d", last, top)
	}
}

// P1.4: what was added and didn't come to the end can be taken away again; at the end, what went beyond is lost.
func TestTakenAwayAgain(t *testing.T) {
	for _, a := range edges {
		for _, b := range edges {
			sum := Up(a, b)
			if sum < top && Down(sum, b) != Hold(a) {
				t.Errorf("%d and %d make %d; less %d it is %d, want %d", a, b, sum, b, Down(sum, b), Hold(a))
			}
			if sum < top && Down(sum, a) != Hold(b) {
				t.Errorf("%d and %d make %d; less %d it is %d, want %d", a, b, sum, a, Down(sum, a), Hold(b))
			}
		}
	}
	if x := Down(Up(top-2, 2), 2); x != top-2 {
		t.Errorf("just at the end: %d", x)
	}
	if x := Down(Up(top-2, 5), 5); x != top-5 {
		t.Errorf("beyond the end: %d", x)
	}
}

// The chapter's examples.
func TestExamples(t *testing.T) {
	if x := Up(top, 5); x != top {
		t.Errorf("Up(MaxCount, 5) = %d", x)
	}
	if x := Down(3, 5); x != 0 {
		t.Errorf("Down(3, 5) = %d", x)
	}
	if x := Up(-2, 4); x != 4 {
		t.Errorf("Up(-2, 4) = %d", x)
	}
}
