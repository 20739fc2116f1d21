package lib

import (
	"burrow/api"
	"burrow/kernel"
)

// operation is one under way: a goroutine that makes its calls, each in a turn of its own. What stands below the channels is the goroutine's alone until it has ended.
type operation struct {
	turn chan struct{} // Pick hands out a turn
	told chan struct{} // it comes back, if there is a call left to make; closed: the goroutine has ended
	end  chan struct{} // closed by Cancel: no turn will come

	kernel *kernel.Kernel
	slot   int
	done   api.Done
	free   frames
	unused bool // no call was made in the turn that it has
	gone   bool // no more calls are made: its process may not, or it was cancelled
}

// begin lets an operation wait for its first turn.
func begin(k *kernel.Kernel, slot int, op api.Op) *operation {
	o := &operation{
		turn:   make(chan struct{}),
		told:   make(chan struct{}),
		end:    make(chan struct{}),
		kernel: k,
		slot:   slot,
		done:   api.Done{Op: op},
	}
	go o.run()
	return o
}

// goesOn hands out a turn, and tells whether there is a call left to make behind it.
func (o *operation) goesOn() bool {
	o.turn <- struct{}{}
	_, more := <-o.told
	return more
}

// cancel waits for the goroutine too, so that none is left behind it.
func (o *operation) cancel() {
	close(o.end)
	<-o.told
}

// run is the goroutine. State is asked in the first turn, not ahead of it: until then others may call.
func (o *operation) run() {
	defer close(o.told)
	if o.waitForTurn() {
		o.done.Value, o.done.Err = o.perform(o.kernel.State())
	}
}

// waitForTurn: did a turn come, and not the end? (Never both at once: who picks does not cancel meanwhile.)
func (o *operation) waitForTurn() bool {
	select {
	case <-o.turn:
		o.unused = true
		return true
	case <-o.end:
		return false
	}
}

// nextTurn gives a turn back that was used, and waits for another one.
func (o *operation) nextTurn() bool {
	if o.unused {
		return true
	}
	o.told <- struct{}{}
	return o.waitForTurn()
}

// call makes a call, in a turn of its own. Behind an ErrCaller all others are that too, without being made: so an operation comes to its end in that turn, whatever it was about to do.
func (o *operation) call(number int, args [3]int) (int, api.Errno) {
	if o.gone || !o.nextTurn() {
		o.gone = true
		return 0, api.ErrCaller
	}
	o.unused = false
	value, err := o.kernel.Call(o.slot, number, args)
	o.gone = err == api.ErrCaller
	return value, err
}

// yield stands in the place of a call that can't be made: it is as if this error had come of it.
func (o *operation) yield(instead api.Errno) api.Errno {
	if _, err := o.call(api.Yield, [3]int{}); err != api.OK {
		return err
	}
	return instead
}
