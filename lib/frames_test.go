package lib_test

import (
	"math"
	"testing"

	"burrow/api"
)

func TestGrow(t *testing.T) {
	w := newWorld(t, 5, 1, 0)
	w.ok(0, api.Map, 0, 2)
	w.does(0, api.Grow, 3, 0, 1, 0, api.OK)
	w.does(0, api.Grow, 1, 0, 1, 0, api.OK)
	w.does(0, api.Grow, 1, 0, 1, 0, api.ErrPage)
	w.does(0, api.Grow, 2, 0, 1, 0, api.OK)
	for page, frame := range []int{2, 3, 4, 1} {
		if got := w.slot(0).Pages[page]; got != (api.Entry{Frame: frame, Writes: true}) {
			t.Errorf("page %d is %+v, want frame %d", page, got, frame)
		}
	}
	w.ok(0, api.Unmap, 0)
	w.ok(0, api.Unmap, 3)
	w.does(0, api.Grow, 0, 0, 1, 0, api.OK)
	if w.frameOf(0, 0) != 1 {
		t.Errorf("of the frames 1 and 2, both Free, %d was taken", w.frameOf(0, 0))
	}
}

func TestGrowAtNoPage(t *testing.T) {
	for _, page := range append(farNumbers(), api.Pages, api.Pages+1) {
		w := newWorld(t, 3, 1, 0)
		w.does(0, api.Grow, page, 0, 1, 0, api.ErrNumber)
	}
}

// Where no frame is left, Yield is called in the place of the call: what that would have been refused for does not matter.
func TestNoFrameIsLeft(t *testing.T) {
	for _, page := range []int{0, 1, api.Pages, math.MinInt} {
		w := newWorld(t, 2, 1, 1)
		w.ok(0, api.Map, 0, 1)
		before := w.k.State()
		w.does(0, api.Grow, page, 0, 1, 0, api.ErrFull)
		w.does(0, api.MakePipe, page, page, 1, 0, api.ErrFull)
		if !sameState(before, w.k.State()) {
			t.Errorf("without a frame, the kernel is changed: %+v", w.k.State())
		}
	}
}

// The beginning is the first pick, not Begin: what was taken, or let go, in between is known.
func TestTheBeginningIsTheFirstPick(t *testing.T) {
	w := newWorld(t, 4, 1, 1)
	w.ok(0, api.Map, 0, 1)
	w.begin(0, api.Grow, 1, 0)
	w.ok(0, api.Map, 3, 2)
	w.ends(0, 1, 0, api.OK)
	if w.frameOf(0, 1) != 3 {
		t.Errorf("the page has frame %d", w.frameOf(0, 1))
	}
	w.begin(0, api.MakePipe, 0, 2)
	w.ok(0, api.Unmap, 0)
	w.ends(0, 1, 0, api.OK)
	if w.k.State().Ducts[0].Frame != 1 {
		t.Errorf("the pipe is %+v", w.k.State().Ducts[0])
	}
}

func TestMakePipe(t *testing.T) {
	w := newWorld(t, 8, 1, 3)
	w.ok(0, api.Map, 0, 2)
	w.does(0, api.MakePipe, 1, 2, 1, 0, api.OK)
	if f := w.slot(0).Files; f[2] != (api.File{Pipe: 1}) || f[3] != (api.File{Pipe: 1, Writes: true}) {
		t.Errorf("the files are %+v", f)
	}
	if d := w.k.State().Ducts[1]; d != (api.Duct{Frame: 1, Readers: 1, Writers: 1}) {
		t.Errorf("the pipe is %+v", d)
	}
	w.does(0, api.MakePipe, 1, 0, 1, 0, api.ErrState)
	for _, file := range []int{1, 2, 3} {
		w.does(0, api.MakePipe, 0, file, 1, 0, api.ErrFile)
	}
	w.does(0, api.MakePipe, 2, 0, 1, 0, api.OK)
	if d := w.k.State().Ducts[2]; d.Frame != 3 {
		t.Errorf("the pipe is %+v", d)
	}
	for _, far := range farNumbers() {
		w.does(0, api.MakePipe, far, 0, 1, 0, api.ErrNumber)
		w.does(0, api.MakePipe, 0, far, 1, 0, api.ErrNumber)
	}
	w.does(0, api.MakePipe, 3, 0, 1, 0, api.ErrNumber)
	w.does(0, api.MakePipe, 0, api.Files, 1, 0, api.ErrNumber)
}

func TestQuit(t *testing.T) {
	for _, code := range []int{0, 5, -5, math.MinInt, math.MaxInt} {
		w := newFamily(t, 24)
		w.ok(1, api.Spawn, 4, 11)
		w.does(1, api.Quit, code, 9, 1, 0, api.OK)
		if s := w.slot(1); s.Kind != api.Zombie || s.Code != code {
			t.Errorf("who has quit with %d is %+v", code, s)
		}
		if s := w.slot(4); s.Parent != 0 {
			t.Errorf("its child is %+v", s)
		}
		w.does(1, api.Quit, code, 9, 1, 0, api.ErrCaller)
		before := w.k.State()
		w.does(0, api.Quit, code, 9, 1, 0, api.ErrSlot)
		if !sameState(before, w.k.State()) {
			t.Errorf("Quit of the process 0 has changed the kernel")
		}
	}
}

// A frame that was Free at the beginning and is taken by another one is tried in vain, once: not again when it is Free again.
func TestFrameTakenInBetween(t *testing.T) {
	w := newParent(t, 8, 2)
	w.begin(0, api.Fork, 0, 0)
	w.picks(0, 1) // Spawn(1, 4)
	w.ok(0, api.Map, 1, 5)
	w.picks(0, 1) // Copy(1, 0, 5): ErrFrame
	if w.frameOf(1, 0) != -1 {
		t.Errorf("the child's page has frame %d", w.frameOf(1, 0))
	}
	w.ok(0, api.Unmap, 1)
	w.picks(0, 2) // Copy(1, 0, 6), Copy(1, 2, 7)
	if a, b := w.frameOf(1, 0), w.frameOf(1, 2); a != 6 || b != 7 {
		t.Errorf("the child's pages have the frames %d and %d", a, b)
	}
	w.ends(0, 3, 1, api.OK)
}

// A frame that was used is not tried again, though it is Free again.
func TestFrameUsedAndLetGo(t *testing.T) {
	w := newParent(t, 8, 2)
	w.begin(0, api.Fork, 0, 0)
	w.picks(0, 2) // Spawn(1, 4), Copy(1, 0, 5)
	w.ok(0, api.Drop, 1, 0)
	w.picks(0, 1) // Copy(1, 2, 6)
	if w.frameOf(1, 2) != 6 {
		t.Errorf("the child's page has frame %d", w.frameOf(1, 2))
	}
	w.ends(0, 3, 1, api.OK)
}

// A frame that becomes Free behind the beginning is not known.
func TestFrameLetGoInBetween(t *testing.T) {
	w := newParent(t, 7, 2)
	w.ok(0, api.Map, 1, 4)
	w.begin(0, api.Fork, 0, 0)
	w.picks(0, 1) // Spawn(1, 5)
	w.ok(0, api.Unmap, 1)
	w.picks(0, 1) // Copy(1, 0, 6)
	if w.frameOf(1, 0) != 6 {
		t.Errorf("the child's page has frame %d", w.frameOf(1, 0))
	}
	// Copy(1, 1, ..), with no frame left: Yield; Drop(1, 0), Reap(1)
	w.ends(0, 3, 0, api.ErrFull)
	if w.slot(1).Kind != api.None {
		t.Errorf("the child is %+v", w.slot(1))
	}
}

// Frames that others have let go in any order are tried by rising numbers.
func TestFramesByRisingNumbers(t *testing.T) {
	w := newWorld(t, 32, 6, 0)
	for page := range api.Pages {
		w.ok(0, api.Map, page, 31-5*page)
	}
	w.does(0, api.Fork, 0, 0, 6, 1, api.OK)
	if s := w.slot(1); s.Table != 1 || s.Pages[0].Frame != 2 || s.Pages[1].Frame != 3 || s.Pages[2].Frame != 4 || s.Pages[3].Frame != 5 {
		t.Errorf("the first child is %+v", s)
	}
	for _, page := range []int{2, 0, 3, 1} {
		w.ok(0, api.Unmap, page)
	}
	w.does(1, api.Quit, 0, 0, 1, 0, api.OK)
	w.does(0, api.Wait, 0, 0, 5, 0, api.OK)
	w.ok(0, api.Map, 0, 3)
	w.ok(0, api.Map, 1, 1)
	w.ok(0, api.Map, 3, 30)
	w.does(0, api.Fork, 0, 0, 5, 1, api.OK)
	if s := w.slot(1); s.Table != 2 || s.Pages[0].Frame != 4 || s.Pages[1].Frame != 5 || s.Pages[3].Frame != 6 {
		t.Errorf("the second child is %+v", s)
	}
}
