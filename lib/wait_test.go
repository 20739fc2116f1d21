package lib_test

import (
	"math"
	"testing"

	"burrow/api"
)

// Neither Embryos nor Ready children nor other processes' Zombies are waited for.
func TestWaitForNobody(t *testing.T) {
	w := newWorld(t, 16, 4, 0)
	w.does(0, api.Wait, 0, 0, 1, 0, api.ErrAgain)
	w.does(0, api.Fork, 0, 0, 2, 1, api.OK)
	w.ok(0, api.Spawn, 2, 2)
	w.does(1, api.Fork, 0, 0, 2, 3, api.OK)
	w.does(3, api.Quit, 1, 0, 1, 0, api.OK)
	before := w.k.State()
	w.does(0, api.Wait, 0, 0, 1, 0, api.ErrAgain)
	if !sameState(before, w.k.State()) {
		t.Errorf("Wait for nobody has changed the kernel")
	}
	w.does(1, api.Wait, 0, 0, 1, 1, api.OK)
}

func TestWait(t *testing.T) {
	for _, code := range []int{0, 5, -5, math.MinInt, math.MaxInt} {
		w := newParent(t, 12, 3)
		before := w.k.State()
		w.does(0, api.Fork, 0, 0, 6, 1, api.OK)
		w.does(1, api.Quit, code, 0, 1, 0, api.OK)
		w.begin(0, api.Wait, 0, 0)
		w.picks(0, 1) // Drop(1, 0)
		if s := w.slot(1); s.Pages[0].Frame != -1 || s.Pages[2].Frame != 6 {
			t.Errorf("behind one pick the child's pages are %+v", s.Pages)
		}
		w.picks(0, 2) // Drop(1, 2), Shut(1, 1)
		if s := w.slot(1); s.Pages[2].Frame != -1 || s.Files[1].Pipe != -1 || s.Files[2].Pipe != 0 {
			t.Errorf("behind three picks the child is %+v", s)
		}
		w.ends(0, 2, code, api.OK) // Shut(1, 2), Reap(1)
		if !sameState(before, w.k.State()) {
			t.Errorf("behind Wait all is %+v, was %+v ahead of Fork", w.k.State(), before)
		}
	}
}

// Of several Zombies the first one is waited for, whoever ended first; then the next one.
func TestWaitForSeveral(t *testing.T) {
	w := newWorld(t, 16, 5, 0)
	for child := 1; child <= 4; child++ {
		w.does(0, api.Fork, 0, 0, 2, child, api.OK)
	}
	for _, child := range []int{4, 2, 3} {
		w.does(child, api.Quit, 10*child, 0, 1, 0, api.OK)
	}
	for _, child := range []int{2, 3, 4} {
		w.does(0, api.Wait, 0, 0, 1, 10*child, api.OK)
		if s := w.slot(child); s.Kind != api.None {
			t.Errorf("behind Wait, the process %d is %+v", child, s)
		}
	}
	w.does(0, api.Wait, 0, 0, 1, 0, api.ErrAgain)
	w.does(1, api.Quit, 9, 0, 1, 0, api.OK)
	w.does(0, api.Wait, 0, 0, 1, 9, api.OK)
}

// What counts is who is a Zombie when the first pick comes.
func TestWaitKnowsTheBeginning(t *testing.T) {
	w := newParent(t, 16, 3)
	w.does(0, api.Fork, 0, 0, 6, 1, api.OK)
	w.does(0, api.Fork, 0, 0, 6, 2, api.OK)
	w.begin(0, api.Wait, 0, 0)
	w.does(2, api.Quit, 22, 0, 1, 0, api.OK)
	w.picks(0, 1) // Drop(2, 0)
	w.does(1, api.Quit, 11, 0, 1, 0, api.OK)
	w.ends(0, 4, 22, api.OK)
	if s := w.slot(1); s.Kind != api.Zombie {
		t.Errorf("the process 1 is %+v", s)
	}
	w.does(0, api.Wait, 0, 0, 5, 11, api.OK)
}

// Whatever Drop and Shut come to, the others are called; Reap is what it ends with.
func TestWaitWhateverComes(t *testing.T) {
	takings := []request{{api.Drop, [3]int{3, 0}}, {api.Drop, [3]int{3, 2}}, {api.Shut, [3]int{3, 1}}, {api.Shut, [3]int{3, 2}}}
	for picks := 1; picks < len(takings); picks++ {
		w := newFamily(t, 24)
		w.begin(0, api.Wait, 0, 0)
		w.picks(0, picks)
		for _, r := range takings[picks:] {
			w.ok(0, r.call, r.args[:]...)
		}
		w.ends(0, 5-picks, -5, api.OK)
		if s := w.slot(3); s.Kind != api.None {
			t.Errorf("the child is %+v", s)
		}
	}
	w := newFamily(t, 24)
	w.begin(0, api.Wait, 0, 0)
	w.picks(0, 1)
	for _, r := range append(takings[1:], request{api.Reap, [3]int{3}}) {
		w.ok(0, r.call, r.args[:]...)
	}
	w.ends(0, 4, 0, api.ErrSlot)
}

// What was taken from the child ahead of the first pick is not asked for.
func TestWaitForWhatIsLeft(t *testing.T) {
	w := newFamily(t, 24)
	w.begin(0, api.Wait, 0, 0)
	w.ok(0, api.Drop, 3, 2)
	w.ok(0, api.Shut, 3, 1)
	w.ends(0, 3, -5, api.OK) // Drop(3, 0), Shut(3, 2), Reap(3)
}

// A slot that is another process by now is not taken apart, unless it may be.
func TestWaitForWhoIsAnotherOneByNow(t *testing.T) {
	w := newFamily(t, 24)
	w.begin(0, api.Wait, 0, 0)
	w.picks(0, 4)
	w.ok(0, api.Reap, 3)
	w.ok(0, api.Spawn, 3, 20)
	w.ok(0, api.Copy, 3, 0, 21)
	w.ends(0, 1, 0, api.ErrPage) // Reap(3)
	if s := w.slot(3); s.Kind != api.Embryo || s.Pages[0].Frame != 21 {
		t.Errorf("the process 3 is %+v", s)
	}
}

// The children of who has ended are the process 0's: it waits for them.
func TestWaitForOrphans(t *testing.T) {
	w := newWorld(t, 16, 4, 0)
	w.does(0, api.Fork, 0, 0, 2, 1, api.OK)
	w.does(1, api.Fork, 0, 0, 2, 2, api.OK)
	w.does(2, api.Quit, 6, 0, 1, 0, api.OK)
	w.does(0, api.Wait, 0, 0, 1, 0, api.ErrAgain)
	w.does(1, api.Quit, 5, 0, 1, 0, api.OK)
	w.does(0, api.Wait, 0, 0, 1, 5, api.OK)
	w.does(0, api.Wait, 0, 0, 1, 6, api.OK)
	w.does(0, api.Wait, 0, 0, 1, 0, api.ErrAgain)
}
