package lib_test

import (
	"math"
	"os"
	"runtime"
	"slices"
	"testing"
	"time"

	"burrow/api"
	"burrow/kernel"
	"burrow/lib"
)

// A call that waits for ever fails the tests sooner than their own bound would.
func TestMain(m *testing.M) {
	time.AfterFunc(3*time.Minute, func() { panic("the tests do not end: does a call wait for ever?") })
	os.Exit(m.Run())
}

// world is a kernel with a lib, and beside them another kernel, of which each call that an operation must make is asked directly: after each step both kernels must be the same.
type world struct {
	t     *testing.T
	k     *kernel.Kernel
	l     *lib.Lib
	other *kernel.Kernel
	under []*played
	done  [][]api.Done
}

func newWorld(t *testing.T, frames, slots, pipes int) *world {
	t.Helper()
	k := newKernel(t, frames, slots, pipes)
	w := &world{
		t:     t,
		k:     k,
		l:     lib.New(k),
		other: newKernel(t, frames, slots, pipes),
		under: make([]*played, slots),
		done:  make([][]api.Done, slots),
	}
	if w.l == nil {
		t.Fatal("lib.New gave none")
	}
	t.Cleanup(w.l.Cancel)
	return w
}

func newKernel(t *testing.T, frames, slots, pipes int) *kernel.Kernel {
	t.Helper()
	c := api.Config{Frames: frames, Slots: slots, Pipes: pipes}
	k, err := kernel.New(c)
	if k == nil || err != api.OK {
		t.Fatalf("kernel.New(%+v) = %v, %d", c, k, err)
	}
	return k
}

// call makes a call beside the operations.
func (w *world) call(slot, call int, args ...int) api.Errno {
	w.t.Helper()
	before := w.k.State()
	var three [3]int
	copy(three[:], args)
	n, err := w.k.Call(slot, call, three)
	if m, other := w.other.Call(slot, call, three); n != m || err != other {
		w.t.Fatalf("Call(%d, %d, %v) = %d, %d, of the other kernel %d, %d", slot, call, args, n, err, m, other)
	}
	w.look(before, slot)
	return err
}

// ok makes a call that must be done.
func (w *world) ok(slot, call int, args ...int) {
	w.t.Helper()
	if err := w.call(slot, call, args...); err != api.OK {
		w.t.Fatalf("Call(%d, %d, %v): %d", slot, call, args, err)
	}
}

// begin lets an operation begin, which must be so.
func (w *world) begin(slot, kind, a, b int) {
	w.t.Helper()
	op := api.Op{Kind: kind, A: a, B: b}
	before := w.k.State()
	if err := w.l.Begin(slot, op); err != api.OK {
		w.t.Fatalf("Begin(%d, %+v) = %d", slot, op, err)
	}
	w.under[slot] = &played{slot: slot, op: op}
	if !sameState(before, w.k.State()) {
		w.t.Fatalf("Begin(%d, %+v) has changed the kernel", slot, op)
	}
}

// pick picks a process with something under way, and tells whether that has ended.
func (w *world) pick(slot int) bool {
	w.t.Helper()
	p := w.under[slot]
	before := w.k.State()
	if p.start == nil {
		start := w.other.State()
		p.start = &start
	}
	next, _, _ := p.follow()
	value, err := w.other.Call(slot, next.call, next.args)
	p.came = append(p.came, answer{value, err})
	_, ended, done := p.follow()
	over, failed := w.l.Pick(slot)
	if over != ended || failed != api.OK {
		w.t.Fatalf("Pick(%d) = %v, %d, want %v; %+v, its calls came to %v, the last one was %v", slot, over, failed, ended, p.op, p.came, next)
	}
	if ended {
		w.under[slot] = nil
		w.done[slot] = append(w.done[slot], done)
	}
	w.look(before, slot)
	return over
}

// look holds the kernel against the other one, and what is told against what has ended; by: who called.
func (w *world) look(before api.State, by int) {
	w.t.Helper()
	after := w.k.State()
	if other := w.other.State(); !sameState(after, other) {
		w.t.Fatalf("the process %d made of %+v: %+v, want %+v", by, before, after, other)
	}
	checkBooks(w.t, after)
	checkApart(w.t, before, after, by)
	for slot, want := range w.done {
		if told, err := w.l.Done(slot); err != api.OK || !slices.Equal(told, want) {
			w.t.Fatalf("Done(%d) = %+v, %d, want %+v", slot, told, err, want)
		}
	}
}

// picks are so many, none of which ends the operation.
func (w *world) picks(slot, many int) {
	w.t.Helper()
	for i := range many {
		if w.pick(slot) {
			w.t.Fatalf("the operation of %d has ended with pick %d: %+v", slot, i+1, w.last(slot))
		}
	}
}

// ends are so many picks, of which the last one ends the operation, with this value and error.
func (w *world) ends(slot, many, value int, err api.Errno) {
	w.t.Helper()
	w.picks(slot, many-1)
	if !w.pick(slot) {
		w.t.Fatalf("the operation of %d has not ended with pick %d", slot, many)
	}
	if d := w.last(slot); d.Value != value || d.Err != err {
		w.t.Fatalf("the operation of %d has ended with %+v, want %d, %d", slot, d, value, err)
	}
}

// does is an operation from its beginning to its end.
func (w *world) does(slot, kind, a, b int, many, value int, err api.Errno) {
	w.t.Helper()
	w.begin(slot, kind, a, b)
	w.ends(slot, many, value, err)
}

// last is what Done tells last.
func (w *world) last(slot int) api.Done {
	w.t.Helper()
	told, err := w.l.Done(slot)
	if err != api.OK || len(told) == 0 {
		w.t.Fatalf("Done(%d) = %v, %d", slot, told, err)
	}
	return told[len(told)-1]
}

// cancel ends all that is under way: neither the kernel nor what is told may change by that.
func (w *world) cancel() {
	w.t.Helper()
	before := w.k.State()
	w.l.Cancel()
	clear(w.under)
	if !sameState(before, w.k.State()) {
		w.t.Fatalf("Cancel made of %+v: %+v", before, w.k.State())
	}
	w.look(before, 0)
	for slot := range w.under {
		if over, err := w.l.Pick(slot); over || err != api.ErrAgain {
			w.t.Fatalf("Pick(%d) behind Cancel = %v, %d", slot, over, err)
		}
	}
}

func (w *world) slot(number int) api.Slot { return w.k.State().Slots[number] }

// frameOf is the frame of a page (-1: none).
func (w *world) frameOf(slot, page int) int { return w.slot(slot).Pages[page].Frame }

// word is a word of a page that has a frame.
func (w *world) word(slot, page, word int) int {
	s := w.k.State()
	return s.Frames[s.Slots[slot].Pages[page].Frame].Words[word]
}

// checkNoneLeft: so many goroutines were there ahead. One that has told its end may still be on its way out, so it is given time.
func checkNoneLeft(t *testing.T, ahead int) {
	t.Helper()
	left := runtime.NumGoroutine()
	for range 2000 {
		if left <= ahead {
			return
		}
		time.Sleep(time.Millisecond)
		left = runtime.NumGoroutine()
	}
	t.Fatalf("there were %d goroutines, now there are %d", ahead, left)
}

// kinds are all kinds of operations.
func kinds() []int {
	return []int{api.Fork, api.Wait, api.MakePipe, api.Put, api.Take, api.Quit, api.Grow}
}

// farNumbers are numbers of no thing whatever.
func farNumbers() []int { return []int{math.MinInt, -1, math.MaxInt} }
