package lib_test

import (
	"testing"

	"burrow/api"
)

func TestFork(t *testing.T) {
	w := newParent(t, 12, 3)
	before := w.k.State()
	w.begin(0, api.Fork, 0, 0)
	w.picks(0, 1)
	if s := w.slot(1); s.Kind != api.Embryo || s.Parent != 0 || s.Table != 4 {
		t.Errorf("behind the first call the child is %+v", s)
	}
	w.ends(0, 5, 1, api.OK)
	s := w.k.State()
	child, me := s.Slots[1], s.Slots[0]
	if child.Kind != api.Ready || child.Parent != 0 || child.Table != 4 || child.Files != me.Files {
		t.Errorf("the child is %+v", child)
	}
	if child.Pages != [api.Pages]api.Entry{{Frame: 5, Writes: true}, {Frame: -1}, {Frame: 6}, {Frame: -1}} {
		t.Errorf("its pages are %+v", child.Pages)
	}
	if me != before.Slots[0] || s.Frames[1] != before.Frames[1] || s.Frames[5].Words != s.Frames[1].Words {
		t.Errorf("behind Fork all is %+v", s)
	}
	if d := s.Ducts[0]; d.Readers != 2 || d.Writers != 2 {
		t.Errorf("the pipe is %+v", d)
	}
	w.ok(1, api.Store, 0, 2, 8)
	if w.word(0, 0, 2) != 7 {
		t.Errorf("what the child stores the parent sees")
	}
	w.does(1, api.Fork, 0, 0, 6, 2, api.OK)
	if s := w.slot(2); s.Parent != 1 || s.Kind != api.Ready || w.word(2, 0, 2) != 8 {
		t.Errorf("the child's child is %+v", s)
	}
}

// A process that has nothing: Spawn, Start.
func TestForkOfNothing(t *testing.T) {
	w := newWorld(t, 2, 2, 0)
	w.does(0, api.Fork, 0, 0, 2, 1, api.OK)
	if s := w.slot(1); s.Kind != api.Ready || s.Table != 1 {
		t.Errorf("the child is %+v", s)
	}
}

// The document's fourth example.
func TestForkExample(t *testing.T) {
	for _, taken := range []bool{false, true} {
		w := newWorld(t, 4, 2, 0)
		w.ok(0, api.Map, 0, 1)
		w.begin(0, api.Fork, 0, 0)
		w.picks(0, 1)
		if !taken {
			w.ends(0, 2, 1, api.OK)
			continue
		}
		w.ok(0, api.Map, 1, 3)
		w.picks(0, 1)
		w.ends(0, 2, 0, api.ErrFull)
		if s := w.slot(1); s.Kind != api.None {
			t.Errorf("the child is %+v", s)
		}
	}
}

// Slots are tried by rising numbers, of those that were None when the first pick came.
func TestForkTakesTheFirstSlot(t *testing.T) {
	w := newWorld(t, 12, 5, 0)
	w.ok(0, api.Spawn, 1, 1)
	w.ok(0, api.Spawn, 3, 3)
	w.begin(0, api.Fork, 0, 0)
	w.ok(0, api.Reap, 1)
	w.ok(0, api.Spawn, 2, 2)
	w.ok(0, api.Spawn, 1, 5)
	w.ends(0, 2, 4, api.OK)
	if s := w.slot(4); s.Table != 1 {
		t.Errorf("the child is %+v", s)
	}
	w.ok(0, api.Reap, 3)
	w.ok(0, api.Reap, 2)
	w.does(0, api.Fork, 0, 0, 2, 2, api.OK)
}

// Without a slot, without a frame, and without either, Fork is a Yield.
func TestForkWithoutRoom(t *testing.T) {
	noSlot, noFrame, neither := newWorld(t, 8, 1, 0), newWorld(t, 2, 3, 0), newWorld(t, 2, 1, 0)
	noFrame.ok(0, api.Map, 0, 1)
	neither.ok(0, api.Map, 0, 1)
	taken := newWorld(t, 8, 2, 0)
	taken.ok(0, api.Spawn, 1, 1)
	for i, w := range []*world{noSlot, noFrame, neither, taken} {
		before := w.k.State()
		w.does(0, api.Fork, 0, 0, 1, 0, api.ErrFull)
		if !sameState(before, w.k.State()) {
			t.Errorf("%d: Fork made of %+v: %+v", i, before, w.k.State())
		}
	}
	taken.ok(0, api.Reap, 1)
	taken.does(0, api.Fork, 0, 0, 2, 1, api.OK)
}

// What the process had at the beginning is handed on, not what it has got since; where a page is another one by now, that is copied.
func TestForkOfWhatWas(t *testing.T) {
	w := newParent(t, 16, 2)
	w.begin(0, api.Fork, 0, 0)
	w.picks(0, 1)
	w.ok(0, api.Map, 3, 15)
	w.ok(0, api.Dup, 1, 0)
	w.ok(0, api.Unmap, 0)
	w.ok(0, api.Map, 0, 14)
	w.ok(0, api.Store, 0, 1, 3)
	w.ends(0, 5, 1, api.OK)
	s := w.slot(1)
	if s.Pages[3].Frame != -1 || s.Files[0].Pipe != -1 || w.word(1, 0, 1) != 3 || w.word(1, 0, 2) != 0 {
		t.Errorf("the child is %+v", s)
	}
}

// forkStop is what comes in the way of a Fork, whose calls would be Spawn, Copy, Copy, Give, Give and Start.
type forkStop struct {
	name   string
	picks  int            // so many are made ahead of it
	inWay  func(w *world) // what the process itself calls then
	more   int            // so many picks are left until the end
	err    api.Errno
	leaves func(w *world) // looks at what is left
}

func nobodyIsLeft(w *world) {
	w.t.Helper()
	if s := w.slot(1); s.Kind != api.None {
		w.t.Errorf("the child is %+v", s)
	}
	for i, f := range w.k.State().Frames {
		if f.Owner == 1 {
			w.t.Errorf("frame %d is %+v", i, f)
		}
	}
	if d := w.k.State().Ducts[0]; d.Readers > 1 || d.Writers > 1 {
		w.t.Errorf("the pipe is %+v", d)
	}
}

func embryoIsLeft(w *world) {
	w.t.Helper()
	if s := w.slot(1); s.Kind != api.Embryo || s.Parent != 0 {
		w.t.Errorf("the child is %+v", s)
	}
}

func childIsLeft(w *world) {
	w.t.Helper()
	s := w.slot(1)
	if s.Kind != api.Ready || s.Pages[0].Frame != 5 || s.Pages[2].Frame != 6 || s.Files != w.slot(0).Files {
		w.t.Errorf("the child is %+v", s)
	}
}

// calling is a call of the process 0.
func calling(number int, args ...int) func(w *world) {
	return func(w *world) {
		w.t.Helper()
		w.ok(0, number, args...)
	}
}

func forkStops() []forkStop {
	return []forkStop{
		{name: "page 0 is gone", picks: 1, inWay: calling(api.Unmap, 0), more: 2, err: api.ErrPage, leaves: nobodyIsLeft},
		{name: "page 2 is gone", picks: 2, inWay: calling(api.Unmap, 2), more: 3, err: api.ErrPage, leaves: nobodyIsLeft},
		{name: "the child has page 0", picks: 1, inWay: calling(api.Copy, 1, 0, 9), more: 2, err: api.ErrPage, leaves: embryoIsLeft},
		{name: "the child has page 2", picks: 1, inWay: calling(api.Copy, 1, 2, 9), more: 4, err: api.ErrPage, leaves: embryoIsLeft},
		{name: "file 1 is gone", picks: 3, inWay: calling(api.Close, 1), more: 4, err: api.ErrFile, leaves: nobodyIsLeft},
		{name: "file 2 is gone", picks: 4, inWay: calling(api.Close, 2), more: 5, err: api.ErrFile, leaves: nobodyIsLeft},
		{name: "both files are gone", picks: 2, inWay: func(w *world) {
			w.ok(0, api.Close, 1)
			w.ok(0, api.Close, 2)
		}, more: 5, err: api.ErrFile, leaves: nobodyIsLeft},
		{name: "the child has file 1", picks: 3, inWay: calling(api.Give, 1, 2, 1), more: 4, err: api.ErrFile, leaves: embryoIsLeft},
		{name: "the child has file 2", picks: 1, inWay: calling(api.Give, 1, 2, 2), more: 8, err: api.ErrFile, leaves: embryoIsLeft},
		{name: "the child has begun", picks: 5, inWay: calling(api.Start, 1), more: 6, err: api.ErrSlot, leaves: childIsLeft},
		{name: "the child has begun ahead of Give", picks: 4, inWay: calling(api.Start, 1), more: 5, err: api.ErrSlot, leaves: func(w *world) {
			if s := w.slot(1); s.Kind != api.Ready || s.Files[1].Pipe != 0 || s.Files[2].Pipe != -1 {
				w.t.Errorf("the child is %+v", s)
			}
		}},
		{name: "the child is reaped", picks: 1, inWay: calling(api.Reap, 1), more: 2, err: api.ErrSlot, leaves: nobodyIsLeft},
		{name: "the child has nothing any more", picks: 5, inWay: func(w *world) {
			for _, page := range []int{0, 2} {
				w.ok(0, api.Drop, 1, page)
			}
			for _, file := range []int{1, 2} {
				w.ok(0, api.Shut, 1, file)
			}
			w.ok(0, api.Reap, 1)
		}, more: 6, err: api.ErrSlot, leaves: nobodyIsLeft},
	}
}

// Fork is taken back, whichever of its calls is refused: what was copied and given goes, then the child, and the error is that of the call.
func TestForkTakenBack(t *testing.T) {
	for _, f := range forkStops() {
		w := newParent(t, 12, 3)
		w.begin(0, api.Fork, 0, 0)
		w.picks(0, f.picks)
		f.inWay(w)
		w.ends(0, f.more, 0, f.err)
		f.leaves(w)
		if t.Failed() {
			t.Fatalf("so it is where %s", f.name)
		}
	}
}

// Where nothing but the call that is refused stands in the way, all is as it was ahead of Fork.
func TestForkTakenBackWithoutATrace(t *testing.T) {
	for picks := range 3 {
		w := newParent(t, 7-picks, 3)
		before := w.k.State()
		// the frames from 4 on are for as many calls; then one is missing
		switch picks {
		case 0:
			w.does(0, api.Fork, 0, 0, 6, 1, api.OK)
			continue
		case 1:
			w.does(0, api.Fork, 0, 0, 5, 0, api.ErrFull) // Spawn, Copy, Yield, Drop, Reap
		case 2:
			w.does(0, api.Fork, 0, 0, 3, 0, api.ErrFull) // Spawn, Yield, Reap
		}
		if !sameState(before, w.k.State()) {
			t.Errorf("%d frames too few: of %+v came %+v", picks, before, w.k.State())
		}
	}
}

// Each call by which Fork is taken back may be refused: the others are made, and the error stays what it was.
func TestForkTakenBackWhateverComes(t *testing.T) {
	takings := []request{{api.Drop, [3]int{1, 0}}, {api.Drop, [3]int{1, 2}}, {api.Shut, [3]int{1, 1}}}
	for i, r := range takings {
		w := newParent(t, 12, 3)
		w.begin(0, api.Fork, 0, 0)
		w.picks(0, 4)
		w.ok(0, api.Close, 2)
		w.picks(0, 1+i)
		w.ok(0, r.call, r.args[:]...)
		w.ends(0, 4-i, 0, api.ErrFile)
		nobodyIsLeft(w)
	}
	for _, r := range takings {
		w := newParent(t, 12, 3)
		w.begin(0, api.Fork, 0, 0)
		w.picks(0, 4)
		w.ok(0, api.Close, 2)
		w.ok(0, r.call, r.args[:]...)
		w.ends(0, 5, 0, api.ErrFile)
		nobodyIsLeft(w)
	}
	w := newParent(t, 12, 3)
	w.begin(0, api.Fork, 0, 0)
	w.picks(0, 4)
	w.ok(0, api.Close, 2)
	w.picks(0, 4)
	w.ok(0, api.Copy, 1, 0, 9)
	w.ends(0, 1, 0, api.ErrFile) // Reap: ErrPage
	embryoIsLeft(w)
}

// Who ends while its Fork is under way, or taken back, leaves the child to the process 0.
func TestForkOfWhoEnds(t *testing.T) {
	for picks := 1; picks < 9; picks++ {
		w := newFamily(t, 24)
		w.begin(1, api.Fork, 0, 0)
		w.picks(1, min(picks, 4))
		w.ok(1, api.Close, 2)
		w.picks(1, max(picks-4, 0))
		child := w.slot(4)
		w.ok(1, api.Exit, 1)
		w.ends(1, 1, 0, api.ErrCaller)
		child.Parent = 0
		if w.slot(4) != child || child.Kind != api.Embryo {
			t.Errorf("ended behind %d picks: the child is %+v, was %+v", picks, w.slot(4), child)
		}
	}
}

// Two processes fork by turns: each tries the frames that were Free at its own beginning.
func TestForksByTurns(t *testing.T) {
	w := newParent(t, 14, 4)
	w.does(0, api.Fork, 0, 0, 6, 1, api.OK)
	w.begin(0, api.Fork, 0, 0)
	w.begin(1, api.Fork, 0, 0)
	w.picks(0, 1) // Spawn(2, 7)
	w.picks(1, 1) // Spawn(3, 8)
	w.picks(0, 1) // Copy(2, 0, 8): ErrFrame
	w.picks(1, 1) // Copy(3, 0, 9)
	w.picks(0, 2) // Copy(2, 0, 9): ErrFrame; Copy(2, 0, 10)
	w.picks(1, 2) // Copy(3, 2, 10): ErrFrame; Copy(3, 2, 11)
	w.picks(0, 2) // Copy(2, 2, 11): ErrFrame; Copy(2, 2, 12)
	w.ends(1, 3, 3, api.OK)
	w.ends(0, 3, 2, api.OK)
	s := w.k.State().Slots
	if s[2].Table != 7 || s[2].Pages[0].Frame != 10 || s[2].Pages[2].Frame != 12 || s[2].Parent != 0 {
		t.Errorf("the child of 0 is %+v", s[2])
	}
	if s[3].Table != 8 || s[3].Pages[0].Frame != 9 || s[3].Pages[2].Frame != 11 || s[3].Parent != 1 {
		t.Errorf("the child of 1 is %+v", s[3])
	}
}
