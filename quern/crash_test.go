package quern

import (
	"math/rand"
	"strings"
	"testing"

	"quern/api"
	"quern/disk"
)

var other = api.Options{K: 5, M: 1, Bins: 3}

const otherInput = "@q\nGGATTCAGGC\n+\n!!!!!!!!!!\n"

// crashes are some that a disk may have: what was not synced is lost, or stays in part, or all of it.
func crashes() [][]int {
	return [][]int{{0, 0, 0, 0, 0, 0, 0, 0, 0, 0, 0, 0}, {1, 1, 1, 1, 1, 1}, {2, 9, 7, 5, 30, 40}, {0}, {3}, {4, 0, 0, 0, 0, 0}, nil}
}

// hurts lets a disk fail once, or die, behind so many calls.
func hurts() map[string]func(*disk.Disk, int) {
	return map[string]func(*disk.Disk, int){"Fail": (*disk.Disk).Fail, "Die": (*disk.Disk).Die}
}

// behind is what may be found behind a call that was cut off: the disk as it is, and behind crashes.
func behind(d *disk.Disk) []*disk.Disk {
	var found []*disk.Disk
	if !d.Dead() {
		found = append(found, d.Copy())
	}
	for _, keep := range crashes() {
		c := d.Copy()
		c.Crash(keep)
		found = append(found, c)
	}
	return found
}

// goesOn checks what must hold behind a call that was cut off: each run goes on, begins anew or is refused.
func goesOn(t *testing.T, d *disk.Disk, want string) {
	t.Helper()
	c := d.Copy()
	mustRun(t, c, input, plain, api.OK)
	for range 2 {
		if got := told(c); got != want {
			t.Fatalf("P8: a run that went on tells %s, want %s", got, want)
		}
		c.Crash([]int{0})
	}
	mustRun(t, c, otherInput, other, api.ErrOther)
	c = d.Copy()
	before := onDisk(c)
	switch e := Run(c, otherInput, other); e {
	case api.OK:
		c.Crash([]int{0})
		if got := told(c); got != told(done(t, otherInput, other)) {
			t.Fatalf("P8: a run that began anew tells %s", got)
		}
	case api.ErrOther:
		if onDisk(c) != before {
			t.Fatalf("P8: a run was refused, and the disk has changed")
		}
		c.Crash([]int{0})
		mustRun(t, c, otherInput, other, api.ErrOther)
		mustRun(t, c, input, plain, api.OK)
	default:
		t.Fatalf("P8: another run = %d", e)
	}
	if e := Reset(d); e != api.OK || len(d.List()) != 0 {
		t.Fatalf("P9: Reset = %d", e)
	}
}

func TestRunIsCutOff(t *testing.T) {
	want := told(done(t, input, plain))
	for name, hurt := range hurts() {
		for i := 0; ; i++ {
			d := disk.New(wide)
			hurt(d, i)
			e := Run(d, input, plain)
			if e == api.OK && d.Failed() == 0 {
				break
			}
			if e != api.ErrDisk || d.Failed() == 0 && !d.Dead() {
				t.Fatalf("P6, P10: %s(%d): Run = %d", name, i, e)
			}
			for _, c := range behind(d) {
				if got := told(c); got != isAbsent && got != want {
					t.Fatalf("P8: %s(%d): Open tells %s", name, i, got)
				}
				goesOn(t, c, want)
			}
		}
	}
}

func TestDoneRunIsCutOff(t *testing.T) {
	whole := done(t, input, plain)
	want := told(whole)
	for name, hurt := range hurts() {
		for i := 0; ; i++ {
			d := whole.Copy()
			hurt(d, i)
			if e := Run(d, input, plain); e == api.OK && d.Failed() == 0 {
				break
			}
			for _, c := range behind(d) {
				if got := told(c); got != want {
					t.Fatalf("P8: %s(%d): Open tells %s", name, i, got)
				}
				mustRun(t, c, otherInput, other, api.ErrOther)
				goesOn(t, c, want)
			}
		}
	}
}

func TestAnotherRunIsCutOff(t *testing.T) {
	whole := done(t, input, plain)
	want := told(whole)
	for name, hurt := range hurts() {
		d := whole.Copy()
		hurt(d, 0)
		if e := Run(d, otherInput, other); e != api.ErrDisk && e != api.ErrOther {
			t.Errorf("P8: %s(0): another run = %d", name, e)
		}
		for _, c := range behind(d) {
			if got := told(c); got != want {
				t.Errorf("P8: %s(0): Open tells %s", name, got)
			}
		}
	}
}

// begun is disks on which the run was cut off, at each place once, and one on which it is done.
func begun(t *testing.T) []*disk.Disk {
	t.Helper()
	var found []*disk.Disk
	for i := 0; ; i++ {
		d := disk.New(wide)
		d.Fail(i)
		if Run(d, input, plain) == api.OK {
			return append(found, done(t, input, plain))
		}
		found = append(found, d)
	}
}

func TestResetIsCutOff(t *testing.T) {
	want := told(done(t, input, plain))
	for _, whole := range begun(t) {
		for name, hurt := range hurts() {
			for i := 0; ; i++ {
				d := whole.Copy()
				before := told(d)
				hurt(d, i)
				e := Reset(d)
				if e == api.OK && d.Failed() == whole.Failed() {
					break
				}
				if e != api.ErrDisk || d.Failed() == whole.Failed() {
					t.Fatalf("P9, P10: %s(%d): Reset = %d", name, i, e)
				}
				for _, c := range behind(d) {
					if got := told(c); got != isAbsent && got != before {
						t.Fatalf("P9: %s(%d): Open tells %s", name, i, got)
					}
					goesOn(t, c, want)
				}
			}
		}
	}
}

// However often a run is cut off, it comes to its end, if a few calls of the disk go well each time.
func TestRunComesToItsEnd(t *testing.T) {
	text := ">\n" + strings.Repeat("ACGATTACAGGATCATTGCCA", 20)
	o := api.Options{K: 7, M: 5, Bins: 16}
	want := told(done(t, text, o))
	for _, keep := range [][]int{{0, 0, 0, 0, 0, 0, 0, 0, 0, 0, 0, 0, 0, 0, 0, 0, 0, 0, 0, 0, 0, 0, 0}, {1, 1, 1, 1, 1, 1}, nil} {
		d := disk.New(wide)
		tries := 0
		for ; tries < 200; tries++ {
			d.Die(8)
			if Run(d, text, o) == api.OK {
				break
			}
			d.Crash(keep)
		}
		d.Crash([]int{0})
		if got := told(d); got != want {
			t.Errorf("P8: behind %d tries with the crash %v Open tells %.40s", tries, keep, got)
		}
	}
}

func TestSpoiltRunTellsNothingWrong(t *testing.T) {
	whole := done(t, input, plain)
	want := told(whole)
	corrupt := 0
	check := func(d *disk.Disk) {
		t.Helper()
		got := told(d)
		if got != isCorrupt && got != want {
			t.Fatalf("P10: Open tells %s", got)
		}
		if got == isCorrupt {
			corrupt++
		}
		goesOn(t, d, want)
	}
	for _, name := range whole.List() {
		size, _ := whole.Size(name)
		for at := range size {
			for _, by := range []int{1, 2, 16, 32, 128, 255} {
				d := whole.Copy()
				d.Spoil(name, at, by)
				check(d)
			}
			d := whole.Copy()
			d.Cut(name, at)
			check(d)
		}
	}
	if corrupt == 0 {
		t.Errorf("P10: nothing that was spoilt is told")
	}
}

// What lies about of a run that was cut off may be spoilt too; the counts that come of it are right.
func TestSpoiltOnItsWay(t *testing.T) {
	want := told(done(t, input, plain))
	for _, whole := range begun(t) {
		for _, name := range whole.List() {
			size, _ := whole.Size(name)
			for at := range size {
				d := whole.Copy()
				d.Spoil(name, at, 1)
				mustRun(t, d, input, plain, api.OK)
				if got := told(d); got != want {
					t.Fatalf("Open tells %s behind a run whose file %s was spoilt", got, name)
				}
			}
		}
	}
}

// A walk does calls at random on a disk that fails and crashes at random, and knows what may be on it.
type walk struct {
	t     *testing.T
	r     *rand.Rand
	disk  *disk.Disk
	sure  int // the run that is surely begun; -1: none
	done  int // the run that is done; -1: none
	maybe [3]bool
}

type task struct {
	input string
	o     api.Options
	want  string
}

func tasks(t *testing.T) [3]task {
	all := [3]task{{input: input, o: plain}, {input: otherInput, o: other}, {input: input, o: api.Options{K: 3, M: 2, Bins: 16}}}
	for i, x := range all {
		all[i].want = told(done(t, x.input, x.o))
	}
	return all
}

func (w *walk) run(x int, all [3]task) {
	left, failed, before := w.disk.Left(), w.disk.Failed(), onDisk(w.disk)
	switch e := Run(w.disk, all[x].input, all[x].o); e {
	case api.OK:
		if w.sure >= 0 && w.sure != x {
			w.t.Fatalf("P8: run %d is done, but %d was begun", x, w.sure)
		}
		if w.disk.Failed() != failed {
			w.t.Fatalf("P6: the disk has failed, but Run is OK")
		}
		w.sure, w.done, w.maybe = x, x, [3]bool{}
		w.maybe[x] = true
	case api.ErrOther:
		others := w.maybe
		others[x] = false
		if w.sure == x || others == [3]bool{} || onDisk(w.disk) != before && !w.disk.Dead() {
			w.t.Fatalf("P8: run %d is refused; sure is %d, %v may be", x, w.sure, w.maybe)
		}
		if w.sure < 0 {
			for y := range others {
				if one := ([3]bool{y == 0, y == 1, y == 2}); others == one {
					w.sure, w.maybe = y, one
				}
			}
		}
	case api.ErrSpace:
		if left >= enough(all[x].input) || w.done == x {
			w.t.Fatalf("P10: ErrSpace with %d bytes left", left)
		}
		w.maybe[x] = w.maybe[x] || w.sure < 0
	case api.ErrDisk:
		if w.disk.Failed() == failed && !w.disk.Dead() {
			w.t.Fatalf("P10: ErrDisk, but the disk has not failed")
		}
		w.maybe[x] = w.maybe[x] || w.sure < 0
	default:
		w.t.Fatalf("P6: Run = %d", e)
	}
}

func (w *walk) reset() {
	failed := w.disk.Failed()
	switch e := Reset(w.disk); e {
	case api.OK:
		w.maybe = [3]bool{}
		if w.disk.Bytes() != 0 || w.disk.Failed() != failed {
			w.t.Fatalf("P9: Reset is OK, but there is %s, or the disk has failed", onDisk(w.disk))
		}
	case api.ErrDisk:
		if w.disk.Failed() == failed && !w.disk.Dead() {
			w.t.Fatalf("P10: ErrDisk, but the disk has not failed")
		}
	default:
		w.t.Fatalf("P9: Reset = %d", e)
	}
	w.sure, w.done = -1, -1
}

func (w *walk) open(all [3]task) {
	got := told(w.disk)
	if w.disk.Dead() {
		if got != isDisk {
			w.t.Fatalf("P7: Open of a dead disk tells %s", got)
		}
		return
	}
	fine := got == isAbsent && w.done < 0
	for x, may := range w.maybe {
		fine = fine || may && got == all[x].want && (w.done < 0 || w.done == x)
	}
	if !fine {
		w.t.Fatalf("P8: Open tells %s; done is %d, %v may be", got, w.done, w.maybe)
	}
}

func (w *walk) step(all [3]task) {
	switch w.r.Intn(10) {
	case 0, 1, 2:
		w.run(w.r.Intn(3), all)
	case 3:
		w.run(0, all)
	case 4:
		if w.r.Intn(2) == 0 {
			w.reset()
		}
	case 5, 6:
		w.disk.Fail(w.r.Intn(40))
	case 7:
		w.disk.Die(w.r.Intn(60))
	default:
		w.disk.Crash([]int{w.r.Intn(50), w.r.Intn(50), w.r.Intn(50), w.r.Intn(50), w.r.Intn(50)}[:w.r.Intn(6)])
	}
	w.open(all)
}

func TestWalks(t *testing.T) {
	all := tasks(t)
	for seed := range 2000 {
		r := rand.New(rand.NewSource(int64(seed)))
		rooms := []int{wide, enough(input), 200 + r.Intn(1500)}
		w := &walk{t: t, r: r, disk: disk.New(rooms[r.Intn(3)]), sure: -1, done: -1}
		for range 60 {
			w.step(all)
		}
	}
}

// Files that do not go to the disk in one piece must be told right too, wherever the disk fails.
func TestLongRunIsCutOff(t *testing.T) {
	text := ">\n" + lettersOf(rand.New(rand.NewSource(9)), 7000)
	for _, o := range []api.Options{{K: 31, M: 2, Bins: 2}, {K: 11, M: 11, Bins: 1}} {
		want := told(done(t, text, o))
		for i := 0; ; i++ {
			d := disk.New(wide)
			d.Fail(i)
			e := Run(d, text, o)
			if d.Failed() == 0 {
				break
			}
			if got := told(d); e != api.ErrDisk || got != isAbsent && got != want {
				t.Fatalf("P8: Fail(%d): Run = %d, Open tells %.40s", i, e, got)
			}
			mustRun(t, d, text, o, api.OK)
			if told(d) != want {
				t.Fatalf("P8: Fail(%d): the counts are wrong", i)
			}
		}
	}
}

// Over a run of which nothing can be read any more another one begins; its counts are not those of the old one.
func TestBegunAnewOverASpoiltRun(t *testing.T) {
	spoilt := done(t, input, plain)
	for _, name := range spoilt.List() {
		spoilt.Spoil(name, 3, 1)
	}
	want := told(done(t, otherInput, other))
	for i := 0; ; i++ {
		d := spoilt.Copy()
		d.Fail(i)
		e := Run(d, otherInput, other)
		if d.Failed() == 0 {
			break
		}
		if e != api.ErrDisk {
			t.Fatalf("P6: Fail(%d): Run = %d", i, e)
		}
		if got := told(d); Run(d.Copy(), input, plain) == api.ErrOther && got != isAbsent && got != want {
			t.Fatalf("P8: Fail(%d): the new run is begun, and Open tells %s", i, got)
		}
		mustRun(t, d, otherInput, other, api.OK)
	}
}
