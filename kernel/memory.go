package kernel

import "burrow/api"

// become makes a frame something else. Its words go, so that nobody reads what another one left.
func (k *Kernel) become(frame, kind, owner int) {
	k.frames[frame] = api.Frame{Kind: kind, Owner: owner}
}

func (k *Kernel) isFree(frame int) bool { return k.frames[frame].Kind == api.Free }

func (k *Kernel) hasFrame(slot, page int) bool { return k.slots[slot].Pages[page].Frame != none }

// mayWrite is false also of a page without a frame, as its entry tells false then.
func (k *Kernel) mayWrite(slot, page int) bool { return k.slots[slot].Pages[page].Writes }

// words are those of a page that has a frame.
func (k *Kernel) words(slot, page int) *[api.Words]int {
	return &k.frames[k.slots[slot].Pages[page].Frame].Words
}

func (k *Kernel) mapPage(slot int, args [3]int) (int, api.Errno) {
	page, frame := args[0], args[1]
	if k.hasFrame(slot, page) {
		return 0, api.ErrPage
	}
	if !k.isFree(frame) {
		return 0, api.ErrFrame
	}
	k.become(frame, api.Data, slot)
	k.slots[slot].Pages[page] = api.Entry{Frame: frame, Writes: true}
	return 0, api.OK
}

func (k *Kernel) unmap(slot int, args [3]int) (int, api.Errno) {
	page := args[0]
	if !k.hasFrame(slot, page) {
		return 0, api.ErrPage
	}
	k.freePage(slot, page)
	return 0, api.OK
}

// freePage lets go of the frame of a page that has one.
func (k *Kernel) freePage(slot, page int) {
	k.become(k.slots[slot].Pages[page].Frame, api.Free, none)
	k.slots[slot].Pages[page] = api.Entry{Frame: none}
}

func (k *Kernel) protect(slot int, args [3]int) (int, api.Errno) {
	page := args[0]
	if !k.hasFrame(slot, page) {
		return 0, api.ErrPage
	}
	k.slots[slot].Pages[page].Writes = args[1] != 0
	return 0, api.OK
}

func (k *Kernel) load(slot int, args [3]int) (int, api.Errno) {
	page, word := args[0], args[1]
	if !k.hasFrame(slot, page) {
		return 0, api.ErrPage
	}
	return k.words(slot, page)[word], api.OK
}

func (k *Kernel) store(slot int, args [3]int) (int, api.Errno) {
	page, word := args[0], args[1]
	if !k.mayWrite(slot, page) {
		return 0, api.ErrPage
	}
	k.words(slot, page)[word] = args[2]
	return 0, api.OK
}
