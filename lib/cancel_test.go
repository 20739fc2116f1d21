package lib_test

import (
	"runtime"
	"testing"

	"burrow/api"
	"burrow/lib"
)

func TestCancelOfNothing(t *testing.T) {
	w := newFamily(t, 24)
	ahead := runtime.NumGoroutine()
	w.cancel()
	w.cancel()
	checkNoneLeft(t, ahead)
	w.does(0, api.Wait, 0, 0, 5, -5, api.OK)
	lib.New(newKernel(t, 2, 1, 0)).Cancel()
}

// Cancel of one operation, wherever it is: what its calls have made stays, nothing is told of it, and another one may begin.
func TestCancelOfOne(t *testing.T) {
	for _, s := range scenes() {
		for i := range s.picks {
			w := newFamily(t, s.frames)
			ahead := runtime.NumGoroutine()
			s.play(w, i)
			told, _ := w.l.Done(1)
			w.cancel()
			checkNoneLeft(t, ahead)
			if now, err := w.l.Done(1); len(now) != len(told) || err != api.OK {
				t.Errorf("%s, behind Cancel: Done = %+v, %d, was %+v", s.name, now, err, told)
			}
			w.begin(1, api.Wait, 0, 0)
			for !w.pick(1) {
			}
			w.cancel()
			checkNoneLeft(t, ahead)
		}
	}
}

// Cancel of all that several processes have under way, some of which were not picked yet.
func TestCancelOfSeveral(t *testing.T) {
	for picks := range 6 {
		w := newFamily(t, 24)
		ahead := runtime.NumGoroutine()
		w.begin(0, api.Fork, 0, 0)
		w.begin(1, api.Take, 0, 1)
		for slot := 2; slot < 6; slot++ {
			w.begin(slot, api.Grow, 1, 0)
		}
		for range picks {
			w.picks(0, 1)
			w.picks(1, 1)
		}
		w.cancel()
		checkNoneLeft(t, ahead)
		w.cancel()
		// a Fork that was cancelled has left its child; Take waits as it did
		if kind := w.slot(4).Kind; (kind == api.Embryo) != (picks > 0) {
			t.Errorf("behind %d picks and Cancel the child is %+v", picks, w.slot(4))
		}
		for slot := range 6 {
			w.begin(slot, api.Grow, 3, 0)
		}
		for slot := range 6 {
			err := api.OK
			if slot > 1 {
				err = api.ErrCaller
			}
			w.ends(slot, 1, 0, err)
		}
		checkNoneLeft(t, ahead)
	}
}

// What begins behind Cancel knows what is so then, not what was.
func TestBeginBehindCancel(t *testing.T) {
	w := newParent(t, 12, 3)
	w.begin(0, api.Fork, 0, 0)
	w.picks(0, 3) // Spawn(1, 4), Copy(1, 0, 5), Copy(1, 2, 6)
	w.cancel()
	w.begin(0, api.Fork, 0, 0)
	w.cancel()
	w.does(0, api.Fork, 0, 0, 6, 2, api.OK)
	if s := w.slot(2); s.Table != 7 || s.Pages[0].Frame != 8 {
		t.Errorf("the child is %+v", s)
	}
	w.does(0, api.Wait, 0, 0, 1, 0, api.ErrAgain)
}

// An operation that has ended leaves no goroutine, though nobody cancels.
func TestNoGoroutineBehindTheEnd(t *testing.T) {
	for _, s := range scenes() {
		if s.picks == 15 {
			continue
		}
		w := newFamily(t, s.frames)
		ahead := runtime.NumGoroutine()
		if many := s.play(w, 15); many != s.picks {
			t.Errorf("%s: %d picks", s.name, many)
		}
		checkNoneLeft(t, ahead)
	}
}

// Cancel many times over, with one to six under way.
func TestCancelManyTimes(t *testing.T) {
	ahead := runtime.NumGoroutine()
	for i := range 300 {
		l := lib.New(newKernel(t, 12, 6, 1))
		for slot := range 1 + i%6 {
			l.Begin(slot, api.Op{Kind: kinds()[(i+slot)%7]})
		}
		for slot := range i % 7 {
			l.Pick(slot)
		}
		l.Cancel()
	}
	checkNoneLeft(t, ahead)
}
