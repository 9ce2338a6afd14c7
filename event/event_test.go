package event

import (
	"math"
	"slices"
	"strings"
	"testing"

	"fusebox/api"
)

// Bounds of a number, as the chapter's table has them, written out as numbers.
const (
	greatest = 2147483647    // MaxValue
	latest   = 1099511627776 // MaxTime
	last     = 4294967296    // MaxSeq
)

// table is the chapter's: each kind with its role, how many numbers it has, and the least and the most of A, B and C.
var table = []struct {
	kind, role, many int
	least, most      [3]int64
}{
	{1, 0, 1, [3]int64{1, 0, 0}, [3]int64{3, 0, 0}},                      // Register
	{2, 0, 3, [3]int64{0, 0, 0}, [3]int64{greatest, greatest, greatest}}, // Configure
	{3, 1, 2, [3]int64{0, 0, 0}, [3]int64{2, greatest, 0}},               // Outcome
	{4, 1, 1, [3]int64{0, 0, 0}, [3]int64{2, 0, 0}},                      // Trip
	{5, 2, 1, [3]int64{0, 0, 0}, [3]int64{greatest, 0, 0}},               // Admit
	{6, 2, 1, [3]int64{0, 0, 0}, [3]int64{greatest, 0, 0}},               // Reject
	{7, 2, 1, [3]int64{0, 0, 0}, [3]int64{greatest, 0, 0}},               // Refill
	{8, 3, 1, [3]int64{1, 0, 0}, [3]int64{greatest, 0, 0}},               // Attempt
	{9, 3, 1, [3]int64{0, 0, 0}, [3]int64{greatest, 0, 0}},               // Backoff
	{10, 3, 1, [3]int64{1, 0, 0}, [3]int64{greatest, 0, 0}},              // GiveUp
}

// noKinds are below and above the kinds, and far ones, also such as are a kind in fewer bits.
var noKinds = []int{
	math.MinInt, math.MinInt + 1, math.MinInt + 3, math.MinInt32, -1 << 32, -256, -11, -10, -9, -4, -3, -2, -1, 0,
	11, 12, 13, 14, 255, 256, 257, 259, 1<<16 + 2, 1<<31 + 3, 1 << 32, 1<<32 + 1, 1<<32 + 4, math.MaxInt - 1, math.MaxInt,
}

// edges of the numbers, and far ones, also such as are small in fewer bits.
var edges = []int64{
	math.MinInt64, math.MinInt64 + 1, math.MinInt32, -1 << 32, -3, -2, -1, 0, 1, 2, 3, 4, 5, 1000,
	greatest - 1, greatest, greatest + 1, greatest + 2, 1 << 32, 1<<32 + 1, 1 << 40, math.MaxInt64 - 1, math.MaxInt64,
}

// good is an event of each kind that may be told: at its least and at its most numbers.
func good() []api.Event {
	var l []api.Event
	for _, r := range table {
		for _, n := range [][3]int64{r.least, r.most} {
			l = append(l, api.Event{Seq: 7, At: 12, Kind: r.kind, Comp: "db", A: n[0], B: n[1], C: n[2]})
		}
	}
	return l
}

// said: is it what the table says?
func said(e api.Event) bool {
	for _, r := range table {
		if r.kind == e.Kind {
			return e.A >= r.least[0] && e.A <= r.most[0] &&
				e.B >= r.least[1] && e.B <= r.most[1] &&
				e.C >= r.least[2] && e.C <= r.most[2]
		}
	}
	return false
}

// The kinds' names stand for the numbers of the table.
func TestKinds(t *testing.T) {
	kinds := []int{api.Register, api.Configure, api.Outcome, api.Trip, api.Admit, api.Reject, api.Refill, api.Attempt, api.Backoff, api.GiveUp}
	for k, r := range table {
		if kinds[k] != r.kind {
			t.Errorf("the kind in line %d is %d, not %d", k, kinds[k], r.kind)
		}
	}
}

// P5.1: a name has from 1 to 24 bytes.
func TestNamedLengths(t *testing.T) {
	for many := range 600 {
		if got, want := Named(strings.Repeat("n", many)), many >= 1 && many <= 24; got != want {
			t.Errorf("a name of %d bytes: %v", many, got)
		}
	}
	if Named(strings.Repeat("n", 1<<16+1)) {
		t.Error("a very long name")
	}
}

// P5.1: whichever bytes these are.
func TestNamedBytes(t *testing.T) {
	for b := range 256 {
		one := string([]byte{byte(b)})
		if !Named(one) || !Named(strings.Repeat(one, 24)) || Named(strings.Repeat(one, 25)) {
			t.Errorf("names of the byte %d", b)
		}
		if ahead := one + strings.Repeat("n", 23); !Named(ahead) || Named(ahead+"n") {
			t.Errorf("names that begin with the byte %d", b)
		}
	}
	for s, want := range map[string]bool{
		strings.Repeat("é", 12):       true,
		strings.Repeat("é", 12) + "n": false,
		strings.Repeat("é", 13):       false,
		strings.Repeat("語", 8):        true,
		strings.Repeat("語", 9):        false,
		"\xff\xfe\x00":                true,
		" ":                           true,
		"\x00":                        true,
		"a\n\"":                       true,
	} {
		if Named(s) != want {
			t.Errorf("the name %q: %v", s, !want)
		}
	}
}

// P5.1: the role and the count of each kind.
func TestRoleMany(t *testing.T) {
	for _, r := range table {
		if got := Role(r.kind); got != r.role {
			t.Errorf("the role of kind %d: %d, want %d", r.kind, got, r.role)
		}
		if got := Many(r.kind); got != r.many {
			t.Errorf("the numbers of kind %d: %d, want %d", r.kind, got, r.many)
		}
	}
	if Role(api.Trip) != api.Breaker || Role(api.Refill) != api.Limiter || Role(api.Backoff) != api.Retrier {
		t.Error("roles by their names")
	}
}

// P5.1: what is no kind has no role and no number.
func TestNoKind(t *testing.T) {
	for _, kind := range noKinds {
		if got := Role(kind); got != -1 {
			t.Errorf("the role of kind %d: %d, want None", kind, got)
		}
		if got := Many(kind); got != 0 {
			t.Errorf("the numbers of kind %d: %d, want 0", kind, got)
		}
	}
}

// P5.2: an event of each kind may be told, also at the edges of its time, its number and its name.
func TestCheckGood(t *testing.T) {
	for _, e := range good() {
		for _, at := range []int64{0, 1, latest - 1, latest} {
			for _, seq := range []int64{0, 1, last - 1, last} {
				for _, comp := range []string{"a", "\x00", "\n\"\xff", strings.Repeat("n", 24)} {
					e.At, e.Seq, e.Comp = at, seq, comp
					if err := Check(e); err != api.OK {
						t.Errorf("%+v: %d", e, err)
					}
				}
			}
		}
	}
}

// P5.2: what is no kind is told as that, with whatever numbers.
func TestCheckKind(t *testing.T) {
	for _, kind := range noKinds {
		for _, n := range edges {
			for _, e := range []api.Event{{Kind: kind, Comp: "db"}, {Kind: kind, Comp: "db", A: n}, {Kind: kind, Comp: "db", A: n, B: n, C: n}} {
				if err := Check(e); err != api.ErrKind {
					t.Errorf("%+v: %d", e, err)
				}
			}
		}
	}
}

// P5.2: a component whose name may not be.
func TestCheckName(t *testing.T) {
	for _, e := range good() {
		for _, comp := range []string{"", strings.Repeat("n", 25), strings.Repeat("n", 26), strings.Repeat("\x00", 25), strings.Repeat("é", 13), strings.Repeat("n", 1000)} {
			e.Comp = comp
			if err := Check(e); err != api.ErrName {
				t.Errorf("%+v: %d", e, err)
			}
		}
	}
}

// P5.2: A, B and C of each kind, each at each edge beside all others.
func TestCheckValue(t *testing.T) {
	for _, r := range table {
		for _, a := range edges {
			for _, b := range edges {
				for _, c := range edges {
					e := api.Event{Seq: 7, At: 12, Kind: r.kind, Comp: "db", A: a, B: b, C: c}
					want := api.ErrValue
					if said(e) {
						want = api.OK
					}
					if err := Check(e); err != want {
						t.Fatalf("%+v: %d, want %d", e, err, want)
					}
				}
			}
		}
	}
}

// P5.2: the numbers that the issue names, by hand.
func TestCheckValueNamed(t *testing.T) {
	for _, x := range []struct {
		kind    int
		a, b, c int64
		want    api.Errno
	}{
		{api.Register, 0, 0, 0, api.ErrValue}, {api.Register, 1, 0, 0, api.OK}, {api.Register, 2, 0, 0, api.OK},
		{api.Register, 3, 0, 0, api.OK}, {api.Register, 4, 0, 0, api.ErrValue}, {api.Register, 1, 1, 0, api.ErrValue},
		{api.Register, 1, 0, 1, api.ErrValue}, {api.Register, 1, -1, 0, api.ErrValue}, {api.Register, -1, 0, 0, api.ErrValue},
		{api.Configure, 0, 0, 0, api.OK}, {api.Configure, greatest, greatest, greatest, api.OK},
		{api.Configure, greatest + 1, 0, 0, api.ErrValue}, {api.Configure, 0, greatest + 1, 0, api.ErrValue},
		{api.Configure, 0, 0, greatest + 1, api.ErrValue}, {api.Configure, -1, 0, 0, api.ErrValue},
		{api.Configure, 0, -1, 0, api.ErrValue}, {api.Configure, 0, 0, -1, api.ErrValue},
		{api.Outcome, -1, 5, 0, api.ErrValue}, {api.Outcome, 0, 5, 0, api.OK}, {api.Outcome, 2, 5, 0, api.OK},
		{api.Outcome, 3, 5, 0, api.ErrValue}, {api.Outcome, 1, greatest, 0, api.OK}, {api.Outcome, 1, greatest + 1, 0, api.ErrValue},
		{api.Outcome, 1, -1, 0, api.ErrValue}, {api.Outcome, 1, 5, 1, api.ErrValue},
		{api.Trip, -1, 0, 0, api.ErrValue}, {api.Trip, 0, 0, 0, api.OK}, {api.Trip, 2, 0, 0, api.OK},
		{api.Trip, 3, 0, 0, api.ErrValue}, {api.Trip, 1, 1, 0, api.ErrValue}, {api.Trip, 1, 0, 1, api.ErrValue},
		{api.Admit, 0, 0, 0, api.OK}, {api.Admit, 0, 1, 0, api.ErrValue}, {api.Reject, 0, 0, 0, api.OK},
		{api.Reject, greatest + 1, 0, 0, api.ErrValue}, {api.Refill, 0, 0, 0, api.OK}, {api.Refill, -1, 0, 0, api.ErrValue},
		{api.Attempt, 0, 0, 0, api.ErrValue}, {api.Attempt, 1, 0, 0, api.OK}, {api.Attempt, greatest, 0, 0, api.OK},
		{api.GiveUp, 0, 0, 0, api.ErrValue}, {api.GiveUp, 1, 0, 0, api.OK}, {api.GiveUp, 1, 0, 1, api.ErrValue},
		{api.Backoff, 0, 0, 0, api.OK}, {api.Backoff, greatest, 0, 0, api.OK}, {api.Backoff, 0, 0, greatest, api.ErrValue},
	} {
		e := api.Event{Kind: x.kind, Comp: "c", A: x.a, B: x.b, C: x.c}
		if err := Check(e); err != x.want {
			t.Errorf("%+v: %d, want %d", e, err, x.want)
		}
	}
}

// P5.2: times and numbers that may not be.
func TestCheckTimeSeq(t *testing.T) {
	for _, e := range good() {
		for _, n := range []int64{math.MinInt64, math.MinInt64 + 1, -latest, -2, -1, latest + 1, latest + 2, math.MaxInt64} {
			x := e
			x.At = n
			if err := Check(x); err != api.ErrTime {
				t.Errorf("%+v: %d", x, err)
			}
		}
		for _, n := range []int64{math.MinInt64, math.MinInt64 + 1, -last, -2, -1, last + 1, last + 2, latest, math.MaxInt64} {
			x := e
			x.Seq = n
			if err := Check(x); err != api.ErrArg {
				t.Errorf("%+v: %d", x, err)
			}
		}
	}
}

// ways to break each rule, in the order in which they are told.
var ways = []struct {
	err  api.Errno
	ways []func(*api.Event)
}{
	{api.ErrKind, []func(*api.Event){
		func(e *api.Event) { e.Kind = 0 }, func(e *api.Event) { e.Kind = 11 }, func(e *api.Event) { e.Kind = -1 },
	}},
	{api.ErrName, []func(*api.Event){
		func(e *api.Event) { e.Comp = "" }, func(e *api.Event) { e.Comp = strings.Repeat("n", 25) },
	}},
	{api.ErrValue, []func(*api.Event){
		func(e *api.Event) { e.A = -1 }, func(e *api.Event) { e.A = greatest + 1 },
		func(e *api.Event) { e.B = -1 }, func(e *api.Event) { e.B = greatest + 1 },
		func(e *api.Event) { e.C = -1 }, func(e *api.Event) { e.C = greatest + 1 },
	}},
	{api.ErrTime, []func(*api.Event){
		func(e *api.Event) { e.At = -1 }, func(e *api.Event) { e.At = latest + 1 },
	}},
	{api.ErrArg, []func(*api.Event){
		func(e *api.Event) { e.Seq = -1 }, func(e *api.Event) { e.Seq = last + 1 },
	}},
}

// P5.2: of several rules that are broken, whichever and however, the first is told.
func TestCheckOrder(t *testing.T) {
	var broken func(e api.Event, from int, want api.Errno)
	broken = func(e api.Event, from int, want api.Errno) {
		if from == len(ways) {
			if err := Check(e); err != want {
				t.Errorf("%+v: %d, want %d", e, err, want)
			}
			return
		}
		broken(e, from+1, want)
		first := want
		if first == api.OK {
			first = ways[from].err
		}
		for _, way := range ways[from].ways {
			x := e
			way(&x)
			broken(x, from+1, first)
		}
	}
	for _, e := range good() {
		broken(e, 0, api.OK)
	}
}

// P5.3: as many of A, B and C as the kind has, in order, whether they may be or not.
func TestNumbers(t *testing.T) {
	for _, r := range table {
		for _, n := range [][3]int64{{7, 8, 9}, {0, 0, 0}, {-1, math.MinInt64, math.MaxInt64}, {greatest + 1, 5, -5}} {
			e := api.Event{Seq: -3, At: -4, Kind: r.kind, A: n[0], B: n[1], C: n[2]}
			if got := Numbers(e); !slices.Equal(got, n[:r.many]) {
				t.Errorf("the numbers of %+v: %v", e, got)
			}
		}
	}
	for _, kind := range noKinds {
		if got := Numbers(api.Event{Seq: 1, At: 2, Kind: kind, Comp: "db", A: 3, B: 4, C: 5}); len(got) != 0 {
			t.Errorf("the numbers of kind %d: %v", kind, got)
		}
	}
}

// P5.3: the numbers are new memory each time, and nothing of the event stands in the room behind them.
func TestNumbersNew(t *testing.T) {
	for _, r := range table {
		e := api.Event{Kind: r.kind, Comp: "db", A: 7, B: 8, C: 9}
		one, other := Numbers(e), Numbers(e)
		for k := range one {
			one[k] = -1
		}
		if want := []int64{7, 8, 9}[:r.many]; !slices.Equal(other, want) || !slices.Equal(Numbers(e), want) {
			t.Errorf("the numbers of kind %d hang together", r.kind)
		}
		for _, n := range other[len(other):cap(other)] {
			if n != 0 {
				t.Errorf("behind the numbers of kind %d stands %d", r.kind, n)
			}
		}
	}
}

// P5.3: A, B and C are the first three of the list, and 0 where it has fewer, also where they were others, of whatever kind; all else stays.
func TestFill(t *testing.T) {
	for _, kind := range append([]int{1, 2, 3, 4, 5, 6, 7, 8, 9, 10}, noKinds...) {
		for _, was := range [][3]int64{{}, {1, 2, 3}, {-1, -2, -3}, {math.MaxInt64, math.MinInt64, greatest}} {
			e := api.Event{Seq: -5, At: latest + 1, Kind: kind, Comp: "a\xff", A: was[0], B: was[1], C: was[2]}
			for _, x := range []struct {
				l       []int64
				a, b, c int64
			}{
				{nil, 0, 0, 0},
				{[]int64{}, 0, 0, 0},
				{[]int64{4}, 4, 0, 0},
				{[]int64{4, 5}, 4, 5, 0},
				{[]int64{4, 5, 6}, 4, 5, 6},
				{[]int64{4, 5, 6, 7}, 4, 5, 6},
				{[]int64{0, 0, 0, 7, 8, 9}, 0, 0, 0},
				{[]int64{math.MinInt64, -1, math.MaxInt64}, math.MinInt64, -1, math.MaxInt64},
				{make([]int64, 1000), 0, 0, 0},
			} {
				want := api.Event{Seq: -5, At: latest + 1, Kind: kind, Comp: "a\xff", A: x.a, B: x.b, C: x.c}
				if got := Fill(e, x.l); got != want {
					t.Errorf("%+v filled with %v: %+v", e, x.l, got)
				}
			}
		}
	}
}

// P5.3: what stands in a list's spare room is no number of it.
func TestFillSpare(t *testing.T) {
	room := []int64{1, 2, 3, 4}
	for many := range 3 {
		want := api.Event{Kind: api.Configure, A: []int64{0, 1, 1}[many], B: []int64{0, 0, 2}[many]}
		if got := Fill(api.Event{Kind: api.Configure, A: 9, B: 9, C: 9}, room[:many]); got != want {
			t.Errorf("filled with %d of four: %+v", many, got)
		}
	}
}

// P5.3 and rule 3: the list that is handed in stays as it was, its spare room too, and nothing of it is kept.
func TestFillLeaves(t *testing.T) {
	for many := range 6 {
		room := []int64{11, 12, 13, 14, 15, 16}
		l := room[:many]
		e := Fill(api.Event{Kind: api.Trip, A: 1, B: 2, C: 3}, l)
		if !slices.Equal(room, []int64{11, 12, 13, 14, 15, 16}) || len(l) != many {
			t.Errorf("a list of %d is another: %v", many, room)
		}
		was := e
		for k := range room {
			room[k] = -1
		}
		if e != was {
			t.Errorf("an event filled with %d numbers is another", many)
		}
	}
}

// P5.3: an event that may be told is what its numbers fill it with.
func TestFillNumbers(t *testing.T) {
	for _, e := range good() {
		bare := e
		bare.A, bare.B, bare.C = 77, 88, 99
		if got := Fill(bare, Numbers(e)); got != e {
			t.Errorf("%+v comes again as %+v", e, got)
		}
	}
}

// The chapter's examples.
func TestExamples(t *testing.T) {
	if err := Check(api.Event{Kind: api.Trip, Comp: "db", A: 3}); err != api.ErrValue {
		t.Errorf("a Trip to 3: %d", err)
	}
	if err := Check(api.Event{Kind: api.Outcome, A: api.Good, B: 5}); err != api.ErrName {
		t.Errorf("an Outcome of a component without a name: %d", err)
	}
}
