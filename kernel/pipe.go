package kernel

import "burrow/api"

func (k *Kernel) isFile(slot, file int) bool { return k.slots[slot].Files[file].Pipe != none }

func (k *Kernel) pipe(slot int, args [3]int) (int, api.Errno) {
	number, frame, file := args[0], args[1], args[2]
	if k.ducts[number].Frame != none {
		return 0, api.ErrState
	}
	if !k.isFree(frame) {
		return 0, api.ErrFrame
	}
	if file+1 == api.Files || k.isFile(slot, file) || k.isFile(slot, file+1) {
		return 0, api.ErrFile
	}
	k.become(frame, api.Ring, none)
	k.ducts[number] = api.Duct{Frame: frame}
	k.openFile(slot, file, api.File{Pipe: number})
	k.openFile(slot, file+1, api.File{Pipe: number, Writes: true})
	return 0, api.OK
}

func (k *Kernel) dup(slot int, args [3]int) (int, api.Errno) {
	file, to := args[0], args[1]
	if !k.isFile(slot, file) || k.isFile(slot, to) {
		return 0, api.ErrFile
	}
	k.openFile(slot, to, k.slots[slot].Files[file])
	return 0, api.OK
}

func (k *Kernel) close(slot int, args [3]int) (int, api.Errno) {
	file := args[0]
	if !k.isFile(slot, file) {
		return 0, api.ErrFile
	}
	k.closeFile(slot, file)
	return 0, api.OK
}

// openFile makes a file an end of a pipe, and counts it there.
func (k *Kernel) openFile(slot, file int, end api.File) {
	k.slots[slot].Files[file] = end
	k.countEnd(end, 1)
}

// closeFile makes a file none, and lets go of its pipe if it was the last one there.
func (k *Kernel) closeFile(slot, file int) {
	end := k.slots[slot].Files[file]
	k.slots[slot].Files[file] = api.File{Pipe: none}
	k.countEnd(end, -1)
	d := k.ducts[end.Pipe]
	if d.Readers == 0 && d.Writers == 0 {
		k.become(d.Frame, api.Free, none)
		k.ducts[end.Pipe] = api.Duct{Frame: none}
	}
}

func (k *Kernel) countEnd(end api.File, more int) {
	if end.Writes {
		k.ducts[end.Pipe].Writers += more
	} else {
		k.ducts[end.Pipe].Readers += more
	}
}

func (k *Kernel) write(slot int, args [3]int) (int, api.Errno) {
	file, page, word := args[0], args[1], args[2]
	end := k.slots[slot].Files[file]
	if end.Pipe == none || !end.Writes {
		return 0, api.ErrFile
	}
	if !k.hasFrame(slot, page) {
		return 0, api.ErrPage
	}
	d := &k.ducts[end.Pipe]
	if d.Readers == 0 {
		return 0, api.ErrBroken
	}
	if d.Count == api.Words {
		return 0, api.ErrAgain
	}
	k.frames[d.Frame].Words[(d.Head+d.Count)%api.Words] = k.words(slot, page)[word]
	d.Count++
	return 0, api.OK
}

func (k *Kernel) read(slot int, args [3]int) (int, api.Errno) {
	file, page, word := args[0], args[1], args[2]
	end := k.slots[slot].Files[file]
	if end.Pipe == none || end.Writes {
		return 0, api.ErrFile
	}
	if !k.mayWrite(slot, page) {
		return 0, api.ErrPage
	}
	d := &k.ducts[end.Pipe]
	if d.Count == 0 && d.Writers == 0 {
		return 0, api.ErrEnd
	}
	if d.Count == 0 {
		return 0, api.ErrAgain
	}
	k.words(slot, page)[word] = k.frames[d.Frame].Words[d.Head]
	d.Head = (d.Head + 1) % api.Words
	d.Count--
	return 0, api.OK
}
