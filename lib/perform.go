package lib

import "burrow/api"

// none is what State tells where there is no frame or pipe.
const none = -1

// perform makes the calls of an operation, and answers what it comes to; s is all that it knows beside them.
func (o *operation) perform(s api.State) (int, api.Errno) {
	o.free = freeFrames(s)
	a, b := o.done.Op.A, o.done.Op.B
	switch o.done.Op.Kind {
	case api.Fork:
		return o.fork(s)
	case api.Wait:
		return o.wait(s)
	case api.MakePipe:
		return 0, o.callWithFrame(api.Pipe, [3]int{0: a, 2: b}, 1)
	case api.Put:
		return 0, o.callAgain(api.Write, [3]int{b, 0, a})
	case api.Take:
		return o.take(a, b)
	case api.Quit:
		return o.call(api.Exit, [3]int{a})
	case api.Grow:
		return 0, o.callWithFrame(api.Map, [3]int{a}, 1)
	}
	return 0, api.ErrCall
}

// callAgain makes a call until it is not ErrAgain.
func (o *operation) callAgain(number int, args [3]int) api.Errno {
	for {
		if _, err := o.call(number, args); err != api.ErrAgain {
			return err
		}
	}
}

func (o *operation) take(word, file int) (int, api.Errno) {
	if err := o.callAgain(api.Read, [3]int{file, 0, word}); err != api.OK {
		return 0, err
	}
	return o.call(api.Load, [3]int{0, word})
}

func (o *operation) wait(s api.State) (int, api.Errno) {
	for child, c := range s.Slots {
		if c.Parent == o.slot && c.Kind == api.Zombie {
			return o.takeApart(child, pagesOf(c), filesOf(c))
		}
	}
	return 0, o.yield(api.ErrAgain)
}

// takeApart takes these pages and files from a child, and then itself; the answer is what that came to, whatever the others did.
func (o *operation) takeApart(child int, pages, files []int) (int, api.Errno) {
	for _, page := range pages {
		o.call(api.Drop, [3]int{child, page})
	}
	for _, file := range files {
		o.call(api.Shut, [3]int{child, file})
	}
	return o.call(api.Reap, [3]int{child})
}

// pagesOf are the pages that have a frame, by rising numbers.
func pagesOf(s api.Slot) []int {
	var pages []int
	for i, e := range s.Pages {
		if e.Frame != none {
			pages = append(pages, i)
		}
	}
	return pages
}

// filesOf are the files that are one, by rising numbers.
func filesOf(s api.Slot) []int {
	var files []int
	for i, f := range s.Files {
		if f.Pipe != none {
			files = append(files, i)
		}
	}
	return files
}
