package kernel_test

import (
	"math"
	"reflect"
	"testing"

	"burrow/api"
	"burrow/kernel"
)

// step is a call of the process 0, and what it must come to.
type step struct {
	call    int
	a, b, c int
	want    int
	err     api.Errno
}

func fresh(t *testing.T, frames, slots, pipes int) *kernel.Kernel {
	t.Helper()
	c := api.Config{Frames: frames, Slots: slots, Pipes: pipes}
	k, err := kernel.New(c)
	if k == nil || err != api.OK {
		t.Fatalf("New(%+v) = %v, %d", c, k, err)
	}
	return k
}

// run does the steps, and looks after each whether the books are right.
func run(t *testing.T, k *kernel.Kernel, steps ...step) {
	t.Helper()
	for i, s := range steps {
		before := k.State()
		args := [3]int{s.a, s.b, s.c}
		got, err := k.Call(0, s.call, args)
		if got != s.want || err != s.err {
			t.Fatalf("step %d: Call(0, %d, %v) = %d, %d, want %d, %d", i, s.call, args, got, err, s.want, s.err)
		}
		after := k.State()
		if err != api.OK && !reflect.DeepEqual(before, after) {
			t.Fatalf("step %d: Call(0, %d, %v) was refused, and made of %+v: %+v", i, s.call, args, before, after)
		}
		checkBooks(t, after)
	}
}

// emptySlot is what State tells of a process that is None.
func emptySlot() api.Slot {
	page, file := api.Entry{Frame: -1}, api.File{Pipe: -1}
	return api.Slot{
		Parent: -1,
		Table:  -1,
		Pages:  [api.Pages]api.Entry{page, page, page, page},
		Files:  [api.Files]api.File{file, file, file, file},
	}
}

// firstState is what State tells of a kernel that nobody has called yet.
func firstState(c api.Config) api.State {
	s := api.State{
		Frames: make([]api.Frame, c.Frames),
		Slots:  make([]api.Slot, c.Slots),
		Ducts:  make([]api.Duct, c.Pipes),
	}
	for i := range s.Frames {
		s.Frames[i] = api.Frame{Owner: -1}
	}
	for i := range s.Slots {
		s.Slots[i] = emptySlot()
	}
	for i := range s.Ducts {
		s.Ducts[i] = api.Duct{Frame: -1}
	}
	s.Frames[0] = api.Frame{Kind: api.Table}
	s.Slots[0].Kind, s.Slots[0].Table = api.Ready, 0
	return s
}

// sameState: the lengths are asked as well, but nil is as good as a list without elements (P2).
func sameState(a, b api.State) bool {
	if len(a.Ducts) == 0 && len(b.Ducts) == 0 {
		a.Ducts, b.Ducts = nil, nil
	}
	return reflect.DeepEqual(a, b)
}

// checkBooks looks whether all that State tells fits together (P13, P3).
func checkBooks(t *testing.T, s api.State) {
	t.Helper()
	checkSlots(t, s)
	checkDucts(t, s)
	checkFrames(t, s)
}

// checkSlots: what is not there tells nothing.
func checkSlots(t *testing.T, s api.State) {
	t.Helper()
	for i, slot := range s.Slots {
		if slot.Kind == api.None && slot != emptySlot() {
			t.Fatalf("the process %d is None, and has %+v", i, slot)
		}
		for j, e := range slot.Pages {
			if e.Frame == -1 && e.Writes {
				t.Fatalf("page %d of the process %d has no frame, and may be written", j, i)
			}
		}
		for j, f := range slot.Files {
			if f.Pipe == -1 && f.Writes {
				t.Fatalf("file %d of the process %d is none, and writes", j, i)
			}
		}
	}
}

// countEnds counts the files that read a pipe, and those that write it.
func countEnds(s api.State, pipe int) (readers, writers int) {
	for _, slot := range s.Slots {
		for _, f := range slot.Files {
			if f.Pipe == pipe && f.Writes {
				writers++
			} else if f.Pipe == pipe {
				readers++
			}
		}
	}
	return readers, writers
}

// checkDucts: the ends are counted right, and there is a pipe just if it has one.
func checkDucts(t *testing.T, s api.State) {
	t.Helper()
	for i, d := range s.Ducts {
		readers, writers := countEnds(s, i)
		if d.Readers != readers || d.Writers != writers {
			t.Fatalf("pipe %d is %+v, its files are %d and %d", i, d, readers, writers)
		}
		if (d.Frame == -1) != (readers == 0 && writers == 0) {
			t.Fatalf("pipe %d is %+v", i, d)
		}
		if d.Frame == -1 && d != (api.Duct{Frame: -1}) {
			t.Fatalf("there is no pipe %d, and it is %+v", i, d)
		}
		if d.Head < 0 || d.Head >= api.Words || d.Count < 0 || d.Count > api.Words {
			t.Fatalf("pipe %d is %+v", i, d)
		}
	}
}

// checkFrames: each frame is used once, as it says; those that nobody uses are Free, without words.
func checkFrames(t *testing.T, s api.State) {
	t.Helper()
	want := make([]api.Frame, len(s.Frames))
	for i := range want {
		want[i] = api.Frame{Kind: api.Free, Owner: -1}
	}
	use := func(frame, kind, owner int) {
		if frame == -1 {
			return
		}
		if want[frame].Kind != api.Free {
			t.Fatalf("frame %d is used twice: %+v", frame, s)
		}
		want[frame] = api.Frame{Kind: kind, Owner: owner, Words: s.Frames[frame].Words}
	}
	for i, slot := range s.Slots {
		if slot.Kind != api.None && slot.Table == -1 {
			t.Fatalf("the process %d has no table", i)
		}
		use(slot.Table, api.Table, i)
		for _, e := range slot.Pages {
			use(e.Frame, api.Data, i)
		}
	}
	for _, d := range s.Ducts {
		use(d.Frame, api.Ring, -1)
	}
	if !reflect.DeepEqual(s.Frames, want) {
		t.Fatalf("the frames are %+v, used as %+v", s.Frames, want)
	}
}

// farNumbers are numbers of no thing whatever.
func farNumbers() []int { return []int{math.MinInt, -1, math.MaxInt} }
