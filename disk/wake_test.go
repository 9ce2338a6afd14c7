package disk

import (
	"math"
	"math/rand"
	"slices"
	"strings"
	"testing"

	"fusebox/api"
)

// wantWake asks for what Wake answers, and for keep to stay, its spare room too.
func wantWake(t *testing.T, d api.Disk, keep []int, steps int, want api.Disk, err api.Errno) {
	t.Helper()
	given := append(slices.Clone(keep), 77, 78)
	wantDisk(t, "Wake", d, func(d api.Disk) (api.Disk, api.Errno) { return Wake(d, given[:len(keep)], steps) }, want, err)
	if !slices.Equal(given, append(slices.Clone(keep), 77, 78)) {
		t.Errorf("keep became %v", given)
	}
}

// wokenByHand: the disk when the power comes again.
func wokenByHand(d api.Disk, keep []int, steps int) (api.Disk, api.Errno) {
	if !rightByHand(d) || steps < -1 {
		return d, api.ErrArg
	}
	var l []api.File
	for k, f := range d.Files {
		n := 0
		for range len(keep) {
			n = keep[k%len(keep)]
		}
		if n < 0 {
			n = 0
		}
		if n > len(f.Loose) {
			n = len(f.Loose)
		}
		l = append(l, file(f.Name, string(f.Sure)+string(f.Loose[:n]), ""))
	}
	return api.Disk{Files: l, Room: d.Room, Steps: steps}, api.OK
}

// keeps to try: none, fewer than files, as many, and more; below 0, of 0, of as many as there are, and of more.
var keeps = [][]int{nil, {}, {0}, {1}, {2}, {3}, {4}, {-1}, {math.MinInt}, {math.MaxInt}, {1, 2}, {2, 1}, {0, 2, 1}, {1, 0, 2}, {3, 3, 3}, {-1, 1, -1}, {1, -5, math.MaxInt}, {0, 0, 0, 3}, {1, 2, 0, 3, 3, 3}, slices.Repeat([]int{2, 0, 1}, 40)}

// P10.3: of each file there are the bytes that lasted, and of the others as many as keep says.
func TestWake(t *testing.T) {
	files := []api.File{file("a", "A", "123"), file("b", "", "456"), file("c", "CCC", "78"), file("d", "D", ""), file("e", "", "9")}
	for _, c := range []struct {
		keep []int
		want string
	}{
		{nil, "A  CCC D "},
		{[]int{0}, "A  CCC D "},
		{[]int{1}, "A1 4 CCC7 D 9"},
		{[]int{2}, "A12 45 CCC78 D 9"},
		{[]int{3}, "A123 456 CCC78 D 9"},
		{[]int{4}, "A123 456 CCC78 D 9"},
		{[]int{-1}, "A  CCC D "},
		{[]int{1, 2}, "A1 45 CCC7 D 9"},
		{[]int{0, 1, 2}, "A 4 CCC78 D 9"},
		{[]int{2, 1, 0}, "A12 4 CCC D 9"},
		{[]int{3, 0, 1, 5}, "A123  CCC7 D 9"},
		{[]int{0, 3, 1, 5}, "A 456 CCC7 D "},
		{[]int{-2, 3, math.MaxInt, 1, 0}, "A 456 CCC78 D "},
		{[]int{math.MinInt, 2, 1, 1, 1}, "A 45 CCC7 D 9"},
		{[]int{1, 0, 0, 0, 0, 3, 3}, "A1  CCC D "},
	} {
		for _, d := range powers(diskOf(20, files...)) {
			var l []api.File
			for k, s := range strings.Split(c.want, " ") {
				l = append(l, file(files[k].Name, s, ""))
			}
			wantWake(t, d, c.keep, 5, api.Disk{Files: l, Room: 20, Steps: 5}, api.OK)
		}
	}
}

// P10.3: Steps is told, whatever they were.
func TestWakeSteps(t *testing.T) {
	for _, d := range powers(three(11)) {
		for _, steps := range []int{-1, 0, 1, 2, 1000, math.MaxInt} {
			wantWake(t, d, nil, steps, api.Disk{Files: []api.File{file("b", "B", ""), file("m", "12345", ""), file("x.1", "", "")}, Room: 11, Steps: steps}, api.OK)
		}
		for _, steps := range []int{-2, -3, -1000, math.MinInt} {
			wantWake(t, d, []int{1}, steps, d, api.ErrArg)
		}
	}
}

// P10.3: a disk that isn't right stays as it is.
func TestWakeWrong(t *testing.T) {
	for _, d := range wrongDisks() {
		for _, keep := range keeps[:12] {
			for _, steps := range []int{-2, -1, 0, 7} {
				wantWake(t, d, keep, steps, d, api.ErrArg)
			}
		}
	}
}

// P10.3: many disks, each held against what is said by hand; twice is as once.
func TestWakeByHand(t *testing.T) {
	for _, d := range rightDisks() {
		for _, x := range powers(d) {
			for _, keep := range keeps {
				for _, steps := range []int{-2, -1, 0, 3} {
					want, err := wokenByHand(x, keep, steps)
					wantWake(t, x, keep, steps, want, err)
					if err == api.OK {
						wantWake(t, want, keep, steps, want, err)
					}
				}
			}
		}
	}
}

// P10.3: the chapter's example.
func TestExample(t *testing.T) {
	d, _ := Create(diskOf(100), "a")
	d, _ = Append(d, "a", []byte("12345"))
	d, _ = Sync(d, "a")
	d, err := Append(d, "a", []byte("6789"))
	if err != api.OK {
		t.Fatal(err)
	}
	wantWake(t, d, []int{3}, -1, diskOf(100, file("a", "12345678", "")), api.OK)
}

// P10.3, P10.4: the power goes within each operation of the chapter's example: what was synced is there, and what was appended as far as keep says.
func TestExampleCut(t *testing.T) {
	for steps, want := range []api.File{{}, file("a", "", "12345"), file("a", "", "12345"), file("a", "12345", "6789"), file("a", "12345", "6789")} {
		d := api.Disk{Room: 100, Steps: steps}
		d, _ = Create(d, "a")
		d, _ = Append(d, "a", []byte("12345"))
		d, _ = Sync(d, "a")
		d, _ = Append(d, "a", []byte("6789"))
		var l []api.File
		if steps > 0 {
			l = append(l, want)
		}
		if behind := (api.Disk{Files: l, Room: 100, Down: steps < 4}); !same(d, behind) {
			t.Errorf("%d steps: %s, want %s", steps, told(d), told(behind))
		}
		if steps > 0 {
			l[0] = file("a", string(want.Sure)+string(want.Loose[:3]), "")
		}
		wantWake(t, d, []int{3}, -1, diskOf(100, l...), api.OK)
	}
}

// someActs in a row, of a few names, that mostly may be done.
func someActs(r *rand.Rand, many int) []act {
	names := []string{"a", "b", "c", "tmp", "seg.00000001", "A"}
	kinds := []string{"create", "create", "append", "append", "append", "append", "sync", "sync", "rename", "remove", "cut", "cut"}
	var l []act
	for range many {
		a := act{kind: kinds[r.Intn(len(kinds))], name: names[r.Intn(len(names))], n: r.Intn(12) - 1}
		a.to = names[r.Intn(len(names))]
		a.b = "0123456789"[:r.Intn(9)]
		l = append(l, a)
	}
	return l
}

// wantRow asks for what a row of acts does with so many steps, held act by act against what is said by hand, and tells how many went well.
func wantRow(t *testing.T, acts []act, room, steps int) (api.Disk, int) {
	t.Helper()
	d := api.Disk{Room: room, Steps: steps}
	well := 0
	for _, a := range acts {
		want, err := byHand(d, a)
		got, e := a.do(d)
		if e != err || !same(got, want) {
			t.Fatalf("%v of %s: %s and %d, want %s and %d", a, told(d), told(got), e, told(want), err)
		}
		if !Right(got) {
			t.Fatalf("%v: %s isn't right any more", a, told(got))
		}
		if e == api.OK {
			well++
		}
		d = got
	}
	return d, well
}

// P10.4: with enough steps all goes as without a bound; with fewer it goes so up to the power's end.
func TestEnoughSteps(t *testing.T) {
	r := rand.New(rand.NewSource(10))
	for range 60 {
		acts := someActs(r, 60)
		free, well := wantRow(t, acts, 40, unbound)
		if well < 10 {
			t.Errorf("only %d acts went well", well)
		}
		for steps := range well + 3 {
			d, many := wantRow(t, acts, 40, steps)
			if many != min(steps, well) {
				t.Errorf("%d acts of %d steps went well, and %d without a bound", many, steps, well)
			}
			if steps >= well && d.Steps != steps-well {
				t.Errorf("%d steps are left of %d, behind %d acts", d.Steps, steps, well)
			}
			if d.Steps = unbound; steps > well && !same(d, free) {
				t.Errorf("with %d steps: %s, without a bound: %s", steps, told(d), told(free))
			}
		}
	}
}

// P10.4: what was synced is there when the power comes again, unless it was cut, removed, or another file got its name.
func TestSyncedIsThere(t *testing.T) {
	r := rand.New(rand.NewSource(104))
	for range 200 {
		acts := someActs(r, 50)
		steps := r.Intn(50) - 1
		d := api.Disk{Room: 60, Steps: steps}
		synced := map[string]string{}
		for _, a := range acts {
			next, err := a.do(d)
			if err == api.OK {
				note(synced, a, next)
			}
			d = next
			keep := []int{r.Intn(9) - 1, r.Intn(9), r.Intn(3)}[:r.Intn(4)]
			woken, err := Wake(d, keep, unbound)
			if err != api.OK || woken.Down {
				t.Fatalf("%s woke as %s and %d", told(d), told(woken), err)
			}
			for name, s := range synced {
				if b, err := Read(woken, name); err != api.OK || !strings.HasPrefix(string(b), s) {
					t.Fatalf("%v, %s: %s has %q and %d, want %q", a, told(d), name, b, err, s)
				}
			}
			if r.Intn(10) == 0 {
				d = woken
			}
		}
	}
}

// note what is synced behind an act that went well.
func note(synced map[string]string, a act, d api.Disk) {
	s, there := synced[a.name]
	switch a.kind {
	case "create":
		synced[a.name] = ""
	case "sync":
		b, _ := Read(d, a.name)
		synced[a.name] = string(b)
	case "cut":
		synced[a.name] = s[:min(a.n, len(s))]
	case "remove":
		delete(synced, a.name)
	case "rename":
		delete(synced, a.name)
		delete(synced, a.to)
		if there {
			synced[a.to] = s
		}
	}
}

// P10.4: a call answers the same again, and a disk that was answered is the argument of the next call, whatever becomes of the one ahead.
func TestAnswersStay(t *testing.T) {
	r := rand.New(rand.NewSource(7))
	for range 100 {
		var all, was []api.Disk
		d := diskOf(60)
		for _, a := range someActs(r, 40) {
			got, err := a.do(d)
			again, e := a.do(d)
			if e != err || !same(got, again) {
				t.Fatalf("%v of %s: %s, and again %s", a, told(d), told(got), told(again))
			}
			all, was = append(all, got), append(was, roomy(got))
			d = got
		}
		for k := range all {
			if !same(all[k], was[k]) {
				t.Fatalf("%s became %s", told(was[k]), told(all[k]))
			}
		}
	}
}
