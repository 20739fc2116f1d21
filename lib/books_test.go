package lib_test

import (
	"slices"
	"testing"

	"burrow/api"
)

// sameState: nil is as good as a list without elements (P2).
func sameState(a, b api.State) bool {
	return slices.Equal(a.Frames, b.Frames) && slices.Equal(a.Slots, b.Slots) && slices.Equal(a.Ducts, b.Ducts)
}

// checkBooks looks whether all that State tells fits together (P13).
func checkBooks(t *testing.T, s api.State) {
	t.Helper()
	want := make([]api.Frame, len(s.Frames))
	for i := range want {
		want[i] = api.Frame{Kind: api.Free, Owner: -1}
	}
	use := func(frame, kind, owner int) {
		if frame == -1 {
			return
		}
		if want[frame].Kind != api.Free {
			t.Fatalf("frame %d is used twice: %+v", frame, s)
		}
		want[frame] = api.Frame{Kind: kind, Owner: owner, Words: s.Frames[frame].Words}
	}
	for i, slot := range s.Slots {
		if (slot.Kind == api.None) != (slot.Table == -1) {
			t.Fatalf("the process %d is %+v", i, slot)
		}
		use(slot.Table, api.Table, i)
		for _, e := range slot.Pages {
			use(e.Frame, api.Data, i)
		}
	}
	for _, d := range s.Ducts {
		use(d.Frame, api.Ring, -1)
	}
	if !slices.Equal(s.Frames, want) {
		t.Fatalf("the frames are %+v, used as %+v", s.Frames, want)
	}
	checkEnds(t, s)
}

// checkEnds: the files of each pipe are counted right, and there is none without a file.
func checkEnds(t *testing.T, s api.State) {
	t.Helper()
	for i, d := range s.Ducts {
		var readers, writers int
		for _, slot := range s.Slots {
			for _, f := range slot.Files {
				if f.Pipe == i && f.Writes {
					writers++
				} else if f.Pipe == i {
					readers++
				}
			}
		}
		if d.Readers != readers || d.Writers != writers || (d.Frame == -1) != (readers+writers == 0) {
			t.Fatalf("pipe %d is %+v, its files are %d and %d", i, d, readers, writers)
		}
	}
}

// checkApart: what a process has is changed by nobody else, but an Embryo's and a Zombie's by its parent (P13).
func checkApart(t *testing.T, before, after api.State, by int) {
	t.Helper()
	for i, was := range before.Slots {
		still := was.Kind == api.Embryo || was.Kind == api.Zombie
		if i == by || was.Kind == api.None || still && was.Parent == by {
			continue
		}
		is := after.Slots[i]
		if is.Kind != was.Kind || is.Table != was.Table || is.Pages != was.Pages || is.Files != was.Files || is.Code != was.Code {
			t.Fatalf("the process %d made of the process %d, %+v: %+v", by, i, was, is)
		}
		for _, e := range was.Pages {
			if e.Frame != -1 && after.Frames[e.Frame] != before.Frames[e.Frame] {
				t.Fatalf("the process %d has changed the words of the process %d", by, i)
			}
		}
	}
}
