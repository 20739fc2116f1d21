package lib_test

import "burrow/api"

// request is a call that is to be made, answer what it came to.
type request struct {
	call int
	args [3]int
}

type answer struct {
	value int
	err   api.Errno
}

// played is an operation as the document tells it: which call is the next one hangs on what was so at its beginning, and on what its calls came to.
type played struct {
	slot  int
	op    api.Op
	start *api.State // nil: it was not picked yet
	came  []answer
}

// replay goes through an operation from its beginning; the first call that has no answer yet is the next one.
type replay struct {
	played
	asked int
	next  request
	free  []int // not tried yet
}

// stop ends a replay ahead of the operation's own end, or with it.
type stop struct {
	ended bool
}

// follow tells the next call of an operation, or, if it has ended, what of it is told.
func (p played) follow() (next request, ended bool, done api.Done) {
	r := &replay{played: p}
	for i, f := range p.start.Frames {
		if f.Kind == api.Free {
			r.free = append(r.free, i)
		}
	}
	defer func() {
		switch s := recover().(type) {
		case nil:
		case stop:
			next, ended, done = r.next, s.ended, api.Done{Op: p.op, Err: api.ErrCaller}
		default:
			panic(s)
		}
	}()
	value, err := r.play()
	if err != api.OK {
		value = 0
	}
	return request{}, true, api.Done{Op: p.op, Err: err, Value: value}
}

func (r *replay) ask(call int, args ...int) (int, api.Errno) {
	if r.asked == len(r.came) {
		r.next = request{call: call}
		copy(r.next.args[:], args)
		panic(stop{ended: false})
	}
	a := r.came[r.asked]
	r.asked++
	if a.err == api.ErrCaller {
		panic(stop{ended: true})
	}
	return a.value, a.err
}

func (r *replay) play() (int, api.Errno) {
	a, b := r.op.A, r.op.B
	switch r.op.Kind {
	case api.Grow:
		return 0, r.askWithFrames(func(frame int) api.Errno {
			_, err := r.ask(api.Map, a, frame)
			return err
		})
	case api.MakePipe:
		return 0, r.askWithFrames(func(frame int) api.Errno {
			_, err := r.ask(api.Pipe, a, frame, b)
			return err
		})
	case api.Put:
		for {
			if _, err := r.ask(api.Write, b, 0, a); err != api.ErrAgain {
				return 0, err
			}
		}
	case api.Take:
		_, err := r.ask(api.Read, b, 0, a)
		for err == api.ErrAgain {
			_, err = r.ask(api.Read, b, 0, a)
		}
		if err != api.OK {
			return 0, err
		}
		return r.ask(api.Load, 0, a)
	case api.Quit:
		_, err := r.ask(api.Exit, a)
		return 0, err
	case api.Wait:
		return r.playWait()
	default:
		return r.playFork()
	}
}

// askWithFrames asks with frame after frame, until one is not refused, or none is left.
func (r *replay) askWithFrames(ask func(frame int) api.Errno) api.Errno {
	for len(r.free) > 0 {
		frame := r.free[0]
		r.free = r.free[1:]
		if err := ask(frame); err != api.ErrFrame {
			return err
		}
	}
	r.ask(api.Yield)
	return api.ErrFull
}

func (r *replay) playWait() (int, api.Errno) {
	for i, child := range r.start.Slots {
		if child.Parent != r.slot || child.Kind != api.Zombie {
			continue
		}
		for page, e := range child.Pages {
			if e.Frame != -1 {
				r.ask(api.Drop, i, page)
			}
		}
		for file, f := range child.Files {
			if f.Pipe != -1 {
				r.ask(api.Shut, i, file)
			}
		}
		return r.ask(api.Reap, i)
	}
	r.ask(api.Yield)
	return 0, api.ErrAgain
}

func (r *replay) playFork() (int, api.Errno) {
	child, err := r.playSpawn()
	if err != api.OK {
		return 0, err
	}
	var undo []request
	why := func() api.Errno {
		for page, e := range r.start.Slots[r.slot].Pages {
			if e.Frame == -1 {
				continue
			}
			err := r.askWithFrames(func(frame int) api.Errno {
				_, err := r.ask(api.Copy, child, page, frame)
				return err
			})
			if err != api.OK {
				return err
			}
			undo = append(undo, request{api.Drop, [3]int{child, page}})
		}
		for file, f := range r.start.Slots[r.slot].Files {
			if f.Pipe == -1 {
				continue
			}
			if _, err := r.ask(api.Give, child, file, file); err != api.OK {
				return err
			}
			undo = append(undo, request{api.Shut, [3]int{child, file}})
		}
		_, err := r.ask(api.Start, child)
		return err
	}()
	if why == api.OK {
		return child, api.OK
	}
	for _, u := range append(undo, request{api.Reap, [3]int{child}}) {
		r.ask(u.call, u.args[:]...)
	}
	return 0, why
}

// playSpawn: a frame is taken once, and kept while it is the slot that is refused.
func (r *replay) playSpawn() (int, api.Errno) {
	var slots []int
	for i, s := range r.start.Slots {
		if s.Kind == api.None {
			slots = append(slots, i)
		}
	}
	for {
		if len(slots) == 0 || len(r.free) == 0 {
			r.ask(api.Yield)
			return 0, api.ErrFull
		}
		_, err := r.ask(api.Spawn, slots[0], r.free[0])
		switch err {
		case api.ErrFrame:
			r.free = r.free[1:]
		case api.ErrSlot:
			slots = slots[1:]
		case api.OK:
			r.free = r.free[1:]
			return slots[0], api.OK
		default:
			return 0, err
		}
	}
}
