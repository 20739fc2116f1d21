package lib

import "burrow/api"

func (o *operation) fork(s api.State) (int, api.Errno) {
	child, err := o.spawn(s)
	if err != api.OK {
		return 0, err
	}
	me := s.Slots[o.slot]
	copied, err := o.copyPages(child, pagesOf(me))
	var given []int
	if err == api.OK {
		given, err = o.giveFiles(child, filesOf(me))
	}
	if err == api.OK {
		_, err = o.call(api.Start, [3]int{child})
	}
	if err != api.OK {
		return 0, o.takeBack(child, copied, given, err)
	}
	return child, api.OK
}

// spawn makes a child at the first of the slots that were None where that is not refused for the slot.
func (o *operation) spawn(s api.State) (int, api.Errno) {
	for child, c := range s.Slots {
		if c.Kind != api.None {
			continue
		}
		if err := o.callWithFrame(api.Spawn, [3]int{child}, 1); err != api.ErrSlot {
			return child, err
		}
	}
	return 0, o.yield(api.ErrFull)
}

// copyPages tells which of the pages were copied, ahead of one that was refused.
func (o *operation) copyPages(child int, pages []int) ([]int, api.Errno) {
	for i, page := range pages {
		if err := o.callWithFrame(api.Copy, [3]int{child, page}, 2); err != api.OK {
			return pages[:i], err
		}
	}
	return pages, api.OK
}

// giveFiles tells which of the files were given, likewise.
func (o *operation) giveFiles(child int, files []int) ([]int, api.Errno) {
	for i, file := range files {
		if _, err := o.call(api.Give, [3]int{child, file, file}); err != api.OK {
			return files[:i], err
		}
	}
	return files, api.OK
}

// takeBack takes apart a child that could not be finished. What came in the way stays the error, unless the process may not call any more.
func (o *operation) takeBack(child int, copied, given []int, why api.Errno) api.Errno {
	if _, err := o.takeApart(child, copied, given); err == api.ErrCaller {
		return err
	}
	return why
}
