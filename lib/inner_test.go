package lib

import (
	"testing"

	"burrow/api"
	"burrow/kernel"
)

// newKernel is one of 6 frames and 4 slots.
func newKernel(t *testing.T) *kernel.Kernel {
	t.Helper()
	k, err := kernel.New(api.Config{Frames: 6, Slots: 4, Pipes: 1})
	if err != api.OK {
		t.Fatalf("kernel.New: %d", err)
	}
	return k
}

// beginKnowing is an operation that knows what it is told, not what is so in its first turn: so its first calls may be refused for what others did, which no Pick lets them do.
func beginKnowing(k *kernel.Kernel, op api.Op, s api.State) *operation {
	o := &operation{
		turn:   make(chan struct{}),
		told:   make(chan struct{}),
		end:    make(chan struct{}),
		kernel: k,
		done:   api.Done{Op: op},
	}
	go func() {
		defer close(o.told)
		if o.waitForTurn() {
			o.done.Value, o.done.Err = o.perform(s)
		}
	}()
	return o
}

// stale is an operation of a new kernel, in which these calls were made that the operation knows nothing of.
type stale struct {
	op     api.Op
	calls  [][4]int
	picks  int
	value  int
	err    api.Errno
	leaves func(s api.State) bool
}

func stales() []stale {
	return []stale{
		{api.Op{Kind: api.Grow, A: 1}, [][4]int{{api.Map, 0, 1}, {api.Map, 2, 2}}, 3, 0, api.OK, func(s api.State) bool { return s.Slots[0].Pages[1].Frame == 3 }},
		{api.Op{Kind: api.Grow, A: 1}, [][4]int{{api.Map, 0, 2}}, 1, 0, api.OK, func(s api.State) bool { return s.Slots[0].Pages[1].Frame == 1 }},
		{api.Op{Kind: api.Grow, A: 1}, [][4]int{{api.Map, 0, 1}, {api.Map, 2, 2}, {api.Map, 3, 3}, {api.Spawn, 1, 4}, {api.Spawn, 2, 5}}, 6, 0, api.ErrFull, func(s api.State) bool { return s.Slots[0].Pages[1].Frame == -1 }},
		{api.Op{Kind: api.Grow, A: 1}, [][4]int{{api.Map, 1, 1}}, 1, 0, api.ErrPage, func(s api.State) bool { return s.Slots[0].Pages[1].Frame == 1 }},
		{api.Op{Kind: api.MakePipe, B: 2}, [][4]int{{api.Map, 0, 1}}, 2, 0, api.OK, func(s api.State) bool { return s.Ducts[0].Frame == 2 && s.Slots[0].Files[3].Writes }},
		// behind ErrFrame the same slot, with the next frame
		{api.Op{Kind: api.Fork}, [][4]int{{api.Map, 0, 1}, {api.Map, 2, 2}}, 4, 1, api.OK, func(s api.State) bool { return s.Slots[1].Table == 3 }},
		// behind ErrSlot the next slot, with the same frame
		{api.Op{Kind: api.Fork}, [][4]int{{api.Spawn, 1, 5}, {api.Spawn, 2, 4}}, 4, 3, api.OK, func(s api.State) bool { return s.Slots[3].Table == 1 }},
		{api.Op{Kind: api.Fork}, [][4]int{{api.Spawn, 1, 1}, {api.Spawn, 2, 4}}, 5, 3, api.OK, func(s api.State) bool { return s.Slots[3].Table == 2 }},
		// no slot is left to try
		{api.Op{Kind: api.Fork}, [][4]int{{api.Spawn, 1, 1}, {api.Spawn, 2, 2}, {api.Spawn, 3, 3}}, 4, 0, api.ErrFull, func(s api.State) bool { return s.Frames[4].Kind == api.Free }},
		// no frame is left to try, where a slot is
		{api.Op{Kind: api.Fork}, [][4]int{{api.Spawn, 1, 1}, {api.Map, 0, 2}, {api.Map, 1, 3}, {api.Map, 2, 4}, {api.Map, 3, 5}}, 7, 0, api.ErrFull, func(s api.State) bool { return s.Slots[2].Kind == api.None }},
	}
}

// The first calls of an operation are made anew behind ErrFrame and ErrSlot, too (P10, P11).
func TestWhatIsKnownIsStale(t *testing.T) {
	for i, c := range stales() {
		k := newKernel(t)
		o := beginKnowing(k, c.op, k.State())
		for _, call := range c.calls {
			if _, err := k.Call(0, call[0], [3]int{call[1], call[2], call[3]}); err != api.OK {
				t.Fatalf("%d: the call %v: %d", i, call, err)
			}
		}
		picks := 1
		for o.goesOn() {
			picks++
		}
		if picks != c.picks || o.done != (api.Done{Op: c.op, Err: c.err, Value: c.value}) {
			t.Errorf("%d: %d picks, %+v, want %d, %d, %d", i, picks, o.done, c.picks, c.value, c.err)
		}
		if !c.leaves(k.State()) {
			t.Errorf("%d: it has left %+v", i, k.State())
		}
	}
}

// Cancel answers when the goroutines have told their end, not ahead of it (P1).
func TestCancelWaits(t *testing.T) {
	for i := range 200 {
		l := New(newKernel(t))
		for slot := range 4 {
			l.Begin(slot, api.Op{Kind: api.Fork})
		}
		if i%2 == 0 {
			l.Pick(0)
		}
		under := append([]*operation(nil), l.under...)
		l.Cancel()
		for slot, o := range under {
			select {
			case <-o.told:
			default:
				t.Fatalf("behind Cancel the operation of %d has not ended", slot)
			}
		}
	}
}
