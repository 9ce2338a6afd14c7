package tally

import (
	"math"
	"slices"
	"testing"
)

// top is MaxCount and end is 2^53, as the document says them, so that a wrong constant shows as well.
const (
	top = int64(1) << 40
	end = int64(1) << 53
)

// counts are numbers around each end that the document or the type has.
var counts = []int64{
	math.MinInt64, math.MinInt64 + 1, -top - 1, -top, -9, -1,
	0, 1, 2, 9, 1 << 31, top - 1,
	top, top + 1, end, end + 1, math.MaxInt64 - 1, math.MaxInt64,
}

// wholes are tallies of whole parts, of which a few make no sum beyond 2^53.
var wholes = []complex128{
	0, 1, 1i, -1, -1i, 3 + 4i, -7 + 2i, 5 - 6i, -8 - 9i,
	complex(1<<40, 1<<40), complex(-1<<40, 1), complex(1<<50, -1<<50), complex(1<<50-1, 1<<50+1),
}

// odd are tallies with a part that counts as 0.
var odd = []complex128{
	2.5 - 7i, -7 + 2.5i, complex(math.NaN(), 3), complex(3, math.NaN()), complex(math.NaN(), math.NaN()),
	complex(math.Inf(1), 3), complex(3, math.Inf(-1)), complex(math.Inf(-1), math.Inf(1)),
	complex(1<<54, -3), complex(-3, 1e300), complex(math.MaxFloat64, -math.MaxFloat64),
	complex(math.SmallestNonzeroFloat64, math.Copysign(0, -1)),
}

func held(n int64) int64 {
	switch {
	case n < 0:
		return 0
	case n > top:
		return top
	}
	return n
}

// same holds two tallies against each other by their bits, so that what is no number is the same as itself.
func same(a, b complex128) bool {
	return math.Float64bits(real(a)) == math.Float64bits(real(b)) && math.Float64bits(imag(a)) == math.Float64bits(imag(b))
}

// beatOf works a beat out by whole numbers alone: every fourth place adds to one direction.
func beatOf(bad []int64) (int64, int64) {
	var sums [4]int64
	for place, n := range bad {
		sums[place%4] += held(n)
	}
	return sums[0] - sums[2], sums[1] - sums[3]
}

func wantParts(t *testing.T, what string, tally complex128, ok, bad int64) {
	t.Helper()
	if a, b := Parts(tally); a != ok || b != bad {
		t.Errorf("parts of %s: %d, %d, want %d, %d", what, a, b, ok, bad)
	}
}

func wantBeat(t *testing.T, l []int64, ok, bad int64) {
	t.Helper()
	if a, b := Beat(l); a != ok || b != bad {
		t.Errorf("Beat of %d numbers %d: %d, %d, want %d, %d", len(l), l[:min(len(l), 8)], a, b, ok, bad)
	}
}

// P2.1: Of holds both numbers, and Parts tells them, the real one first.
func TestOf(t *testing.T) {
	for _, c := range []struct {
		ok, bad int64
		want    complex128
	}{
		{0, 0, 0}, {5, 0, 5}, {0, 5, 5i}, {3, 4, 3 + 4i}, {4, 3, 4 + 3i},
		{5, -3, 5}, {-3, 5, 5i}, {-1, -1, 0},
		{top - 1, top, complex(1<<40-1, 1<<40)}, {top, top - 1, complex(1<<40, 1<<40-1)},
		{top + 1, 2, complex(1<<40, 2)}, {2, top + 1, complex(2, 1<<40)},
		{end + 1, 7, complex(1<<40, 7)},
		{math.MaxInt64, math.MinInt64, 1 << 40}, {math.MinInt64, math.MaxInt64, 1i * (1 << 40)},
	} {
		if x := Of(c.ok, c.bad); x != c.want {
			t.Errorf("Of(%d, %d) = %v, want %v", c.ok, c.bad, x, c.want)
		}
	}
	for _, ok := range counts {
		for _, bad := range counts {
			if a, b := Parts(Of(ok, bad)); a != held(ok) || b != held(bad) {
				t.Errorf("Of(%d, %d) has the parts %d, %d", ok, bad, a, b)
			}
		}
	}
}

// P2.1: a part that isn't a whole number from -2^53 to 2^53 counts as 0, and the other part stays.
func TestParts(t *testing.T) {
	for _, c := range []struct {
		part float64
		want int64
	}{
		{0, 0}, {math.Copysign(0, -1), 0}, {1, 1}, {-1, -1}, {7, 7}, {-7, -7},
		{1 << 40, top}, {1<<40 + 1, top + 1}, {-1 << 40, -top},
		{1<<53 - 1, end - 1}, {1 << 53, end}, {-1<<53 + 1, -end + 1}, {-1 << 53, -end},
		{1<<53 + 2, 0}, {-1<<53 - 2, 0}, {1 << 54, 0}, {-1 << 54, 0}, {1 << 63, 0}, {-1 << 63, 0}, {1 << 64, 0},
		{2.5, 0}, {-2.5, 0}, {0.5, 0}, {-0.5, 0}, {0.9999999999999999, 0}, {1.0000000000000002, 0},
		{1<<52 - 0.5, 0}, {-1<<52 + 0.5, 0}, {1<<51 + 0.5, 0},
		{math.SmallestNonzeroFloat64, 0}, {-math.SmallestNonzeroFloat64, 0},
		{math.MaxFloat64, 0}, {-math.MaxFloat64, 0}, {1e300, 0},
		{math.NaN(), 0}, {math.Copysign(math.NaN(), -1), 0}, {math.Inf(1), 0}, {math.Inf(-1), 0},
	} {
		for _, other := range []int64{0, 6, -6, end} {
			if a, b := Parts(complex(c.part, float64(other))); a != c.want || b != other {
				t.Errorf("parts of %v and %d: %d, %d", c.part, other, a, b)
			}
			if a, b := Parts(complex(float64(other), c.part)); a != other || b != c.want {
				t.Errorf("parts of %d and %v: %d, %d", other, c.part, a, b)
			}
		}
		if a, b := Parts(complex(c.part, c.part)); a != c.want || b != c.want {
			t.Errorf("parts of %v twice: %d, %d", c.part, a, b)
		}
	}
}

// P2.2: Sum.
func TestSum(t *testing.T) {
	for _, c := range []struct {
		l    []complex128
		want complex128
	}{
		{nil, 0}, {[]complex128{}, 0}, {[]complex128{0}, 0}, {[]complex128{3 - 4i}, 3 - 4i},
		{[]complex128{1, 2i, 3}, 4 + 2i}, {[]complex128{1 + 2i, -3 + 4i, 5 - 6i}, 3},
		{[]complex128{2.5, 0.25i}, 2.5 + 0.25i}, {[]complex128{2.5, 2.5}, 5},
		{[]complex128{1 << 54, -1 << 54, 1}, 1},
		{[]complex128{complex(math.Inf(1), 1), 2 + 3i}, complex(math.Inf(1), 4)},
		{slices.Repeat([]complex128{3 - 1i}, 1000), 3000 - 1000i},
	} {
		if x := Sum(c.l...); x != c.want {
			t.Errorf("Sum(%v) = %v, want %v", c.l[:min(len(c.l), 8)], x, c.want)
		}
	}
	if x := Sum(); !same(x, 0) {
		t.Errorf("Sum() = %v, want 0", x)
	}
	if x := Sum(1, 2i, 3); x != 4+2i {
		t.Errorf("Sum(1, 2i, 3) = %v, want 4+2i", x)
	}
	if x := Sum(1, complex(math.NaN(), 2), 3i); !math.IsNaN(real(x)) || imag(x) != 5 {
		t.Errorf("a sum with what is no number: %v", x)
	}
}

// P2.2: the order shows where a float can't tell a number from the next any more.
func TestSumInOrder(t *testing.T) {
	great := complex(1<<53, 1<<53)
	for _, c := range []struct {
		l    []complex128
		want complex128
	}{
		{[]complex128{great, 1 + 1i, 1 + 1i}, great},
		{[]complex128{1 + 1i, 1 + 1i, great}, complex(1<<53+2, 1<<53+2)},
		{[]complex128{1 + 1i, great, 1 + 1i}, great},
		{[]complex128{great, 1 + 1i, -great}, 0},
		{[]complex128{great, -great, 1 + 1i}, 1 + 1i},
		{[]complex128{complex(1<<53, 1), complex(1, 1<<53), 1 + 1i}, complex(1<<53, 1<<53)},
	} {
		if x := Sum(c.l...); x != c.want {
			t.Errorf("Sum(%v) = %v, want %v", c.l, x, c.want)
		}
	}
}

// P2.2: what is handed in stays as it was, and parts of one row that overlap are each summed by their own.
func TestSumOfParts(t *testing.T) {
	row := []complex128{1, 20i, 300 + 1i, -4000, 50000i}
	was := slices.Clone(row)
	if a, b := Sum(row[:3]...), Sum(row[1:]...); a != 301+21i || b != -3700+50021i {
		t.Errorf("sums of both parts: %v, %v", a, b)
	}
	if !slices.Equal(row, was) {
		t.Errorf("the row is now %v", row)
	}
}

// P2.2: Turn by each count of quarters.
func TestTurn(t *testing.T) {
	turned := [4][2]int64{{3, 4}, {-4, 3}, {-3, -4}, {4, -3}}
	for quarters := -13; quarters <= 13; quarters++ {
		want := turned[((quarters%4)+4)%4]
		if a, b := Parts(Turn(Of(3, 4), quarters)); a != want[0] || b != want[1] {
			t.Errorf("Turn by %d: %d, %d, want %d", quarters, a, b, want)
		}
	}
	for _, c := range []struct{ quarters, rest int }{
		{math.MinInt, 0}, {math.MinInt + 1, 1}, {math.MinInt + 2, 2}, {math.MinInt + 3, 3},
		{math.MaxInt, 3}, {math.MaxInt - 1, 2}, {math.MaxInt - 2, 1}, {math.MaxInt - 3, 0},
		{math.MinInt32, 0}, {math.MaxInt32, 3}, {1 << 30, 0}, {-1<<30 - 1, 3},
	} {
		want := turned[c.rest]
		if a, b := Parts(Turn(Of(3, 4), c.quarters)); a != want[0] || b != want[1] {
			t.Errorf("Turn by %d: %d, %d, want %d", c.quarters, a, b, want)
		}
	}
}

// P2.2: a quarter is the product with the number whose square is -1, where products are exact.
func TestQuarterAsProduct(t *testing.T) {
	for _, x := range wholes {
		product := x
		for quarters := range 9 {
			if y := Turn(x, quarters); y != product {
				t.Errorf("%v turned by %d: %v, want %v", x, quarters, y, product)
			}
			product *= 1i
		}
	}
}

// P2.2: the parts change places, whatever they are: one that counts as 0 doesn't touch the other.
func TestQuarterOfOddParts(t *testing.T) {
	for _, x := range append(slices.Clone(odd), wholes...) {
		for quarters, want := range []complex128{x, complex(-imag(x), real(x)), complex(-real(x), -imag(x)), complex(imag(x), -real(x))} {
			if y := Turn(x, quarters); y != want && !same(y, want) {
				t.Errorf("%v turned by %d: %v, want %v", x, quarters, y, want)
			}
			a, b := Parts(want)
			wantParts(t, "what is turned", Turn(x, quarters), a, b)
		}
	}
	wantParts(t, "no number and 3, turned", Turn(complex(math.NaN(), 3), 1), -3, 0)
	wantParts(t, "3 and no number, turned", Turn(complex(3, math.NaN()), 1), 0, 3)
	wantParts(t, "3 and no end, turned", Turn(complex(3, math.Inf(1)), -1), 0, -3)
	wantParts(t, "2^53 both, turned", Turn(complex(1<<53, -1<<53), 1), end, end)
}

// P2.3: Beat.
func TestBeat(t *testing.T) {
	for _, c := range []struct {
		l       []int64
		ok, bad int64
	}{
		{nil, 0, 0}, {[]int64{}, 0, 0}, {[]int64{0}, 0, 0},
		{[]int64{7}, 7, 0}, {[]int64{0, 7}, 0, 7}, {[]int64{0, 0, 7}, -7, 0}, {[]int64{0, 0, 0, 7}, 0, -7},
		{[]int64{0, 0, 0, 0, 7}, 7, 0}, {[]int64{5, 0, 0, 0, 5}, 10, 0}, {[]int64{1, 1, 1, 1}, 0, 0},
		{[]int64{1, 2, 4, 8}, -3, -6}, {[]int64{1, 2, 4, 8, 16, -5}, 13, -6},
		{[]int64{-1, -2, -3}, 0, 0}, {[]int64{math.MinInt64, 3, math.MinInt64, 1}, 0, 2},
		{[]int64{top}, top, 0}, {[]int64{top + 1}, top, 0}, {[]int64{0, 0, top + 9}, -top, 0},
		{[]int64{math.MaxInt64, math.MaxInt64}, top, top}, {[]int64{0, 0, math.MaxInt64, math.MaxInt64}, -top, -top},
		{[]int64{top, top, top, top, top}, top, 0},
	} {
		wantBeat(t, c.l, c.ok, c.bad)
	}
	for _, x := range counts {
		for _, y := range counts {
			l := []int64{x, y, 3, x, y, y, 0, x, x}
			ok, bad := beatOf(l)
			wantBeat(t, l, ok, bad)
		}
	}
}

// P2.3: of 4096 numbers each counts, of 4097 none.
func TestBeatOfLongLists(t *testing.T) {
	pulse := make([]int64, 4096)
	for place := range pulse {
		if place%4 == 0 {
			pulse[place] = math.MaxInt64
		}
	}
	wantBeat(t, pulse, 1024*top, 0)
	wantBeat(t, append([]int64{0}, pulse[:4095]...), 0, 1024*top)
	wantBeat(t, append([]int64{0, 0}, pulse[:4094]...), -1024*top, 0)

	rising := make([]int64, 4096)
	for place := range rising {
		rising[place] = int64(place*place) - 100
	}
	ok, bad := beatOf(rising)
	wantBeat(t, rising, ok, bad)
	last := make([]int64, 4096)
	last[4095] = 6
	wantBeat(t, last, 0, -6)

	for _, n := range []int{4097, 4098, 5000, 1 << 16} {
		l := slices.Repeat([]int64{9, 0, 0, 0}, n)[:n]
		wantBeat(t, l, 0, 0)
		wantBeat(t, l[:4096], 9*1024, 0)
	}
}

// P2.3: the list stays as it was, its spare room too.
func TestBeatLeavesItsList(t *testing.T) {
	room := []int64{math.MaxInt64, -4, 7, 8, 9}
	was := slices.Clone(room)
	wantBeat(t, room[:3], top-7, 0)
	wantBeat(t, room[2:], 7-9, 8)
	if !slices.Equal(room, was) {
		t.Errorf("the list is now %d", room)
	}
}

// P2.4: sums of tallies have the sums of their parts, up to 2^53.
func TestSumsOfParts(t *testing.T) {
	for _, x := range wholes {
		for _, y := range wholes {
			for _, z := range wholes {
				a, b := Parts(x)
				c, d := Parts(y)
				e, f := Parts(z)
				wantParts(t, "a sum", Sum(x, y, z), a+c+e, b+d+f)
			}
		}
	}
	wantParts(t, "a sum of just 2^53", Sum(complex(1<<53-1, -1<<53+1), 1-1i), end, -end)
	wantParts(t, "many of MaxCount", Sum(slices.Repeat([]complex128{Of(top, top)}, 8192)...), end, end)
	wantParts(t, "one too many of MaxCount", Sum(slices.Repeat([]complex128{Of(top, 1)}, 8193)...), 0, 8193)
}

// P2.4: four quarters leave a tally as it was, at once or one by one.
func TestFourQuarters(t *testing.T) {
	for _, x := range append(slices.Clone(wholes), odd...) {
		for _, quarters := range []int{0, 4, -4, 400, math.MinInt} {
			if y := Turn(x, quarters); !same(y, x) {
				t.Errorf("%v turned by %d: %v", x, quarters, y)
			}
		}
		if y := Turn(Turn(Turn(Turn(x, 1), 1), 1), 1); !same(y, x) {
			t.Errorf("%v turned four times: %v", x, y)
		}
		if y := Turn(Turn(x, 3), -3); !same(y, x) {
			t.Errorf("%v turned there and back: %v", x, y)
		}
	}
}

// P2.4: where only every other place has a number, the beat has one direction.
func TestBeatOfEveryOther(t *testing.T) {
	for n := range 20 {
		l := make([]int64, n)
		for place := range l {
			if place%2 == 0 {
				l[place] = int64(place*place + 1)
			}
		}
		if _, bad := Beat(l); bad != 0 {
			t.Errorf("Beat(%d) has %d across", l, bad)
		}
		if ok, _ := Beat(append([]int64{0}, l...)); ok != 0 {
			t.Errorf("Beat of 0 and %d has %d across", l, ok)
		}
	}
}

// P2.4: where the numbers come again behind every other one, they take each other away, but for those that are left over.
func TestBeatOfNumbersThatComeAgain(t *testing.T) {
	for n := range 4097 {
		l := slices.Repeat([]int64{70, 3}, n/2+1)[:n]
		want := [4][2]int64{{0, 0}, {70, 0}, {70, 3}, {0, 3}}[n%4]
		wantBeat(t, l, want[0], want[1])
	}
	wantBeat(t, slices.Repeat([]int64{4, 0}, 50)[:99], 0, 0)
	wantBeat(t, slices.Repeat([]int64{4, 0}, 50)[:97], 4, 0)
}

// The chapter's examples.
func TestExamples(t *testing.T) {
	wantBeat(t, []int64{5, 0, 0, 0, 5}, 10, 0)
	wantBeat(t, []int64{1, 1, 1, 1}, 0, 0)
}
