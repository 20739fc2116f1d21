package lib_test

import (
	"runtime"
	"slices"
	"testing"

	"burrow/api"
)

// dice tells numbers that look at random, the same ones each time.
type dice uint64

func (d *dice) below(n int) int {
	*d = *d*6364136223846793005 + 1442695040888963407
	return int(uint64(*d) >> 33 % uint64(n))
}

// number is a small one, now and then a wrong one.
func (d *dice) number(below int) int {
	if far := farNumbers(); d.below(60) == 0 {
		return far[d.below(len(far))]
	}
	return d.below(below)
}

// walker goes through a world at random: operations by turns, calls beside them, and Cancel.
type walker struct {
	*world
	dice
}

// step is one thing that is done.
func (r *walker) step() {
	r.t.Helper()
	slot := r.readySlot()
	switch what := r.below(100); {
	case what < 1 && r.below(4) == 0:
		r.cancel()
	case what < 4:
		r.wrong()
	case what < 20:
		r.beside(slot)
	case r.under[slot] == nil:
		op := r.op(slot)
		r.begin(slot, op.Kind, op.A, op.B)
	default:
		r.pick(slot)
	}
}

// readySlot is mostly one that may call.
func (r *walker) readySlot() int {
	slots := r.k.State().Slots
	slot := r.below(len(slots))
	for range 3 {
		if slots[slot].Kind == api.Ready {
			return slot
		}
		slot = r.below(len(slots))
	}
	return slot
}

// op draws an operation for a process; those that make something are had more often than those that end it.
func (r *walker) op(slot int) api.Op {
	often := append(kinds(), api.Fork, api.Fork, api.Wait, api.Wait, api.MakePipe, api.Put, api.Put, api.Put, api.Put, api.Take, api.Take, api.Take, api.Grow)
	op := api.Op{Kind: often[r.below(len(often))], A: r.number(4), B: r.number(4)}
	if op.Kind == api.Put || op.Kind == api.Take {
		op.B = r.file(slot, op)
	}
	return op
}

// file is mostly one that fits, if the process has one.
func (r *walker) file(slot int, op api.Op) int {
	for range 4 {
		file := r.below(api.Files)
		if f := r.slot(slot).Files[file]; f.Pipe != -1 && f.Writes == (op.Kind == api.Put) {
			return file
		}
	}
	return op.B
}

// beside makes a call that comes in between; what lasts is rather left alone.
func (r *walker) beside(slot int) {
	r.t.Helper()
	often := []int{api.Store, api.Store, api.Store, api.Read, api.Write, api.Map, api.Map, api.Dup, api.Protect, api.Unmap, api.Close, api.Start, api.Drop, api.Shut, api.Reap, api.Spawn, api.Copy, api.Give, api.Exit}
	number := often[r.below(len(often))]
	if number == api.Exit && r.below(3) > 0 {
		number = api.Yield
	}
	frames := len(r.k.State().Frames)
	for range 8 {
		args := []int{r.number(5), r.number(5), r.number(5)}
		switch number {
		case api.Map, api.Spawn:
			args[1] = r.number(frames)
		case api.Copy:
			args[2] = r.number(frames)
		case api.Store:
			args[2] = r.below(1 << 30)
		}
		if r.call(slot, number, args...) == api.OK {
			return
		}
	}
}

// wrong asks what must be refused: nothing is changed by that.
func (r *walker) wrong() {
	r.t.Helper()
	before := r.k.State()
	far := append(farNumbers(), len(before.Slots))
	slot := far[r.below(len(far))]
	if err := r.l.Begin(slot, r.op(0)); err != api.ErrCaller {
		r.t.Fatalf("Begin(%d) = %d", slot, err)
	}
	if over, err := r.l.Pick(slot); over || err != api.ErrCaller {
		r.t.Fatalf("Pick(%d) = %v, %d", slot, over, err)
	}
	if told, err := r.l.Done(slot); told != nil || err != api.ErrCaller {
		r.t.Fatalf("Done(%d) = %v, %d", slot, told, err)
	}
	for slot, p := range r.under {
		if err := r.l.Begin(slot, api.Op{}); err != api.ErrCall {
			r.t.Fatalf("Begin(%d) of no kind = %d", slot, err)
		}
		if p == nil {
			if over, err := r.l.Pick(slot); over || err != api.ErrAgain {
				r.t.Fatalf("Pick(%d) of nothing = %v, %d", slot, over, err)
			}
		} else if err := r.l.Begin(slot, r.op(0)); err != api.ErrBusy {
			r.t.Fatalf("Begin(%d), where %+v is under way, = %d", slot, p.op, err)
		}
	}
	if !sameState(before, r.k.State()) {
		r.t.Fatalf("what was refused made of %+v: %+v", before, r.k.State())
	}
	r.look(before, 0)
}

func newWalker(t *testing.T, seed int) *walker {
	t.Helper()
	d := dice(seed + 1)
	return &walker{newWorld(t, 8+d.below(25), 2+d.below(5), d.below(4)), d}
}

// walkErrors are what the operations of long walks must have come to, by their kinds.
func walkErrors() map[int][]api.Errno {
	return map[int][]api.Errno{
		api.Fork:     {api.OK, api.ErrCaller, api.ErrPage, api.ErrSlot, api.ErrFile, api.ErrFull},
		api.Wait:     {api.OK, api.ErrCaller, api.ErrSlot, api.ErrAgain},
		api.MakePipe: {api.OK, api.ErrCaller, api.ErrNumber, api.ErrFile, api.ErrState, api.ErrFull},
		api.Put:      {api.OK, api.ErrCaller, api.ErrNumber, api.ErrPage, api.ErrFile, api.ErrBroken},
		api.Take:     {api.OK, api.ErrCaller, api.ErrNumber, api.ErrPage, api.ErrFile, api.ErrEnd},
		api.Quit:     {api.OK, api.ErrCaller, api.ErrSlot},
		api.Grow:     {api.OK, api.ErrCaller, api.ErrNumber, api.ErrPage, api.ErrFull},
	}
}

// Operations of several processes by turns, with calls in between and Cancel: after every step the kernel is what the document's calls make of it, the books are right, and nobody has changed what is another one's (P1, P13).
func TestLongWalk(t *testing.T) {
	ahead := runtime.NumGoroutine()
	came := map[api.Done]int{}
	for seed := range 60 {
		r := newWalker(t, seed)
		for range 1500 {
			r.step()
		}
		r.cancel()
		for _, list := range r.done {
			for _, d := range list {
				came[api.Done{Op: api.Op{Kind: d.Op.Kind}, Err: d.Err}]++
			}
		}
	}
	checkNoneLeft(t, ahead)
	for kind, errs := range walkErrors() {
		for _, err := range errs {
			many := came[api.Done{Op: api.Op{Kind: kind}, Err: err}]
			if many < 3 {
				t.Errorf("operations of the kind %d have ended with %d %d times", kind, err, many)
			}
		}
	}
}

// Two kernels with their libs by turns: each is as if it were alone (P2).
func TestTwoWalksByTurns(t *testing.T) {
	for seed := range 10 {
		var alone []*walker
		for i := range 2 {
			r := newWalker(t, 100+2*seed+i)
			for range 800 {
				r.step()
			}
			alone = append(alone, r)
		}
		one, two := newWalker(t, 100+2*seed), newWalker(t, 101+2*seed)
		for i := range 1600 {
			if i%2 == 0 {
				one.step()
			} else {
				two.step()
			}
		}
		for i, r := range []*walker{one, two} {
			if !sameState(r.k.State(), alone[i].k.State()) {
				t.Errorf("by turns the kernel is %+v, alone %+v", r.k.State(), alone[i].k.State())
			}
			for slot := range r.done {
				told, _ := r.l.Done(slot)
				if want, _ := alone[i].l.Done(slot); !slices.Equal(told, want) {
					t.Errorf("by turns Done(%d) = %+v, alone %+v", slot, told, want)
				}
			}
		}
	}
}
