package quern

import (
	"math"
	"math/rand"
	"strings"
	"testing"

	"quern/api"
	"quern/disk"
)

// enough is how many bytes a disk must have left so that no run is refused for room.
func enough(input string) int { return api.Spare + 120*len(input) }

func TestSpace(t *testing.T) {
	want := told(done(t, input, plain))
	refused, fine := 0, 0
	for room := -100; room <= enough(input); room++ {
		d := disk.New(room)
		switch e := Run(d, input, plain); e {
		case api.OK:
			fine++
			if got := told(d); got != want {
				t.Fatalf("P6: with room for %d bytes the counts are %s", room, got)
			}
		case api.ErrSpace:
			refused++
			if got := told(d); got != isAbsent {
				t.Fatalf("P8: behind ErrSpace with room for %d bytes Open tells %s", room, got)
			}
			mustRun(t, d, input, plain, api.ErrSpace)
			if e := Reset(d); e != api.OK || len(d.List()) != 0 {
				t.Fatalf("P9: Reset behind ErrSpace = %d", e)
			}
		default:
			t.Fatalf("P10: Run with room for %d bytes = %d", room, e)
		}
	}
	mustRun(t, disk.New(enough(input)), input, plain, api.OK)
	mustRun(t, disk.New(math.MinInt), input, plain, api.ErrSpace)
	if refused == 0 || fine == 0 {
		t.Errorf("P10: %d runs were refused, %d not", refused, fine)
	}
}

// Inputs and options that need much room: each word a piece of its own, each only once, in many parts.
func TestRoomIsEnough(t *testing.T) {
	r := rand.New(rand.NewSource(10))
	for _, size := range []int{0, 3, 4, 20, 33, 40, 100, 700, 5000, api.MaxInput} {
		for _, o := range []api.Options{{K: 1, M: 1, Bins: 16}, {K: 3, M: 3, Bins: 16}, {K: 11, M: 11, Bins: 16}, {K: 31, M: 11, Bins: 16}, {K: 31, M: 1, Bins: 16}} {
			one, many := "", ""
			if size > 2 {
				one = ">\n" + lettersOf(r, size-2)
			}
			for len(many)+o.K+3 <= size {
				many += ">\n" + lettersOf(r, o.K) + "\n"
			}
			for _, text := range []string{one, many} {
				mustRun(t, disk.New(enough(text)), text, o, api.OK)
			}
		}
	}
}

// What a failed call has left on the disk takes no room from the next one.
func TestRoomIsEnoughBehindFailures(t *testing.T) {
	for i := 0; ; i++ {
		d := disk.New(enough(input))
		d.Fail(i)
		e := Run(d, input, plain)
		if d.Failed() == 0 {
			return
		}
		if e != api.ErrDisk {
			t.Fatalf("P10: call %d of the disk failed, Run = %d", i, e)
		}
		mustRun(t, d, input, plain, api.OK)
	}
}

func TestDoneNeedsNoRoom(t *testing.T) {
	d := done(t, input, plain)
	d.Create("mine")
	if !d.Append("mine", strings.Repeat("x", d.Left())) {
		t.Fatal("the disk cannot be filled")
	}
	mustRun(t, d, input, plain, api.OK)
	mustRun(t, d, "", plain, api.ErrOther)
}
