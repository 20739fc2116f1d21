package kernel_test

import (
	"math"
	"slices"
	"testing"

	"burrow/api"
	"burrow/kernel"
)

// step is a call, by the process 0 if nothing else is said, and what it must come to.
type step struct {
	by      int
	call    int
	a, b, c int
	want    int
	err     api.Errno
}

func fresh(t *testing.T, frames, slots, pipes int) *kernel.Kernel {
	t.Helper()
	c := api.Config{Frames: frames, Slots: slots, Pipes: pipes}
	k, err := kernel.New(c)
	if k == nil || err != api.OK {
		t.Fatalf("New(%+v) = %v, %d", c, k, err)
	}
	return k
}

// run does the steps, and looks after each whether the books are right.
func run(t *testing.T, k *kernel.Kernel, steps ...step) {
	t.Helper()
	for i, s := range steps {
		before := k.State()
		args := [3]int{s.a, s.b, s.c}
		got, err := k.Call(s.by, s.call, args)
		if got != s.want || err != s.err {
			t.Fatalf("step %d: Call(%d, %d, %v) = %d, %d, want %d, %d", i, s.by, s.call, args, got, err, s.want, s.err)
		}
		after := k.State()
		if err != api.OK && !sameState(before, after) {
			t.Fatalf("step %d: Call(%d, %d, %v) was refused, and made of %+v: %+v", i, s.by, s.call, args, before, after)
		}
		checkBooks(t, after)
	}
}

// emptySlot is what State tells of a process that is None.
func emptySlot() api.Slot {
	page, file := api.Entry{Frame: -1}, api.File{Pipe: -1}
	return api.Slot{
		Parent: -1,
		Table:  -1,
		Pages:  [api.Pages]api.Entry{page, page, page, page},
		Files:  [api.Files]api.File{file, file, file, file},
	}
}

// firstState is what State tells of a kernel that nobody has called yet.
func firstState(c api.Config) api.State {
	s := api.State{
		Frames: make([]api.Frame, c.Frames),
		Slots:  make([]api.Slot, c.Slots),
		Ducts:  make([]api.Duct, c.Pipes),
	}
	for i := range s.Frames {
		s.Frames[i] = api.Frame{Owner: -1}
	}
	for i := range s.Slots {
		s.Slots[i] = emptySlot()
	}
	for i := range s.Ducts {
		s.Ducts[i] = api.Duct{Frame: -1}
	}
	s.Frames[0] = api.Frame{Kind: api.Table}
	s.Slots[0].Kind, s.Slots[0].Table = api.Ready, 0
	return s
}

// sameState: nil is as good as a list without elements (P2).
func sameState(a, b api.State) bool {
	return slices.Equal(a.Frames, b.Frames) && slices.Equal(a.Slots, b.Slots) && slices.Equal(a.Ducts, b.Ducts)
}

// changed is what was told, but for what the function writes into it.
func changed(s api.State, change func(s *api.State)) api.State {
	s = api.State{Frames: slices.Clone(s.Frames), Slots: slices.Clone(s.Slots), Ducts: slices.Clone(s.Ducts)}
	change(&s)
	return s
}

// checkBooks looks whether all that State tells fits together (P13, P3).
func checkBooks(t *testing.T, s api.State) {
	t.Helper()
	checkSlots(t, s)
	checkDucts(t, s)
	checkFrames(t, s)
}

// checkSlots: what is not there tells nothing; whose child a process is, is a process that may call.
func checkSlots(t *testing.T, s api.State) {
	t.Helper()
	for i, slot := range s.Slots {
		if slot.Kind == api.None && slot != emptySlot() {
			t.Fatalf("the process %d is None, and has %+v", i, slot)
		}
		if slot.Kind != api.None && (slot.Parent == -1) != (i == 0) {
			t.Fatalf("the process %d is a child of %d", i, slot.Parent)
		}
		if slot.Parent != -1 && (slot.Parent == i || s.Slots[slot.Parent].Kind != api.Ready) {
			t.Fatalf("the process %d is a child of %d, which is %+v", i, slot.Parent, s.Slots[slot.Parent])
		}
		if slot.Kind != api.Zombie && slot.Code != 0 {
			t.Fatalf("the process %d has not ended, and has the Code %d", i, slot.Code)
		}
		checkPagesAndFiles(t, i, slot)
	}
	if s.Slots[0].Kind != api.Ready {
		t.Fatalf("the process 0 is %+v", s.Slots[0])
	}
}

func checkPagesAndFiles(t *testing.T, number int, slot api.Slot) {
	t.Helper()
	for i, e := range slot.Pages {
		if e.Frame == -1 && e.Writes {
			t.Fatalf("page %d of the process %d has no frame, and may be written", i, number)
		}
	}
	for i, f := range slot.Files {
		if f.Pipe == -1 && f.Writes {
			t.Fatalf("file %d of the process %d is none, and writes", i, number)
		}
	}
}

// countEnds counts the files that read a pipe, and those that write it.
func countEnds(s api.State, pipe int) (readers, writers int) {
	for _, slot := range s.Slots {
		for _, f := range slot.Files {
			if f.Pipe == pipe && f.Writes {
				writers++
			} else if f.Pipe == pipe {
				readers++
			}
		}
	}
	return readers, writers
}

// checkDucts: the ends are counted right, and there is a pipe just if it has one.
func checkDucts(t *testing.T, s api.State) {
	t.Helper()
	for i, d := range s.Ducts {
		readers, writers := countEnds(s, i)
		if d.Readers != readers || d.Writers != writers {
			t.Fatalf("pipe %d is %+v, its files are %d and %d", i, d, readers, writers)
		}
		if (d.Frame == -1) != (readers == 0 && writers == 0) {
			t.Fatalf("pipe %d is %+v", i, d)
		}
		if d.Frame == -1 && d != (api.Duct{Frame: -1}) {
			t.Fatalf("there is no pipe %d, and it is %+v", i, d)
		}
		if d.Head < 0 || d.Head >= api.Words || d.Count < 0 || d.Count > api.Words {
			t.Fatalf("pipe %d is %+v", i, d)
		}
	}
}

// checkFrames: each frame is used once, as it says; those that nobody uses are Free, without words.
func checkFrames(t *testing.T, s api.State) {
	t.Helper()
	for i, slot := range s.Slots {
		if (slot.Kind == api.None) != (slot.Table == -1) {
			t.Fatalf("the process %d has the table %d, and is %+v", i, slot.Table, slot)
		}
	}
	want, twice := framesByUse(s)
	if twice != -1 {
		t.Fatalf("frame %d is used twice: %+v", twice, s)
	}
	if !slices.Equal(s.Frames, want) {
		t.Fatalf("the frames are %+v, used as %+v", s.Frames, want)
	}
}

// framesByUse tells what the frames must be, by the processes and pipes that have them, and one that is used twice (-1: none). The words of those in use are taken as they are.
func framesByUse(s api.State) (frames []api.Frame, twice int) {
	frames = make([]api.Frame, len(s.Frames))
	for i := range frames {
		frames[i] = api.Frame{Kind: api.Free, Owner: -1}
	}
	twice = -1
	use := func(frame, kind, owner int) {
		if frame == -1 {
			return
		}
		if frames[frame].Kind != api.Free {
			twice = frame
		}
		frames[frame] = api.Frame{Kind: kind, Owner: owner, Words: s.Frames[frame].Words}
	}
	for i, slot := range s.Slots {
		use(slot.Table, api.Table, i)
		for _, e := range slot.Pages {
			use(e.Frame, api.Data, i)
		}
	}
	for _, d := range s.Ducts {
		use(d.Frame, api.Ring, -1)
	}
	return frames, twice
}

// farNumbers are numbers of no thing whatever.
func farNumbers() []int { return []int{math.MinInt, -1, math.MaxInt} }
