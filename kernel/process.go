package kernel

import "burrow/api"

// first is the process that never ends, and takes over the children of those that do.
const first = 0

func (k *Kernel) isChild(slot, child int) bool { return k.slots[child].Parent == slot }

// isEmbryoOf: is it a child that may still be given something?
func (k *Kernel) isEmbryoOf(slot, child int) bool {
	return k.isChild(slot, child) && k.slots[child].Kind == api.Embryo
}

// isStillOf: is it a child that may be taken apart, as it makes no calls?
func (k *Kernel) isStillOf(slot, child int) bool {
	kind := k.slots[child].Kind
	return k.isChild(slot, child) && (kind == api.Embryo || kind == api.Zombie)
}

func (k *Kernel) spawn(slot int, args [3]int) (int, api.Errno) {
	child, frame := args[0], args[1]
	if k.slots[child].Kind != api.None {
		return 0, api.ErrSlot
	}
	if !k.isFree(frame) {
		return 0, api.ErrFrame
	}
	k.become(frame, api.Table, child)
	k.slots[child].Kind = api.Embryo
	k.slots[child].Parent = slot
	k.slots[child].Table = frame
	return 0, api.OK
}

func (k *Kernel) copyPage(slot int, args [3]int) (int, api.Errno) {
	child, page, frame := args[0], args[1], args[2]
	if !k.isEmbryoOf(slot, child) {
		return 0, api.ErrSlot
	}
	if !k.hasFrame(slot, page) || k.hasFrame(child, page) {
		return 0, api.ErrPage
	}
	if !k.isFree(frame) {
		return 0, api.ErrFrame
	}
	k.become(frame, api.Data, child)
	k.slots[child].Pages[page] = api.Entry{Frame: frame, Writes: k.mayWrite(slot, page)}
	*k.words(child, page) = *k.words(slot, page)
	return 0, api.OK
}

func (k *Kernel) give(slot int, args [3]int) (int, api.Errno) {
	child, file, to := args[0], args[1], args[2]
	if !k.isEmbryoOf(slot, child) {
		return 0, api.ErrSlot
	}
	if !k.isFile(slot, file) || k.isFile(child, to) {
		return 0, api.ErrFile
	}
	k.openFile(child, to, k.slots[slot].Files[file])
	return 0, api.OK
}

func (k *Kernel) start(slot int, args [3]int) (int, api.Errno) {
	child := args[0]
	if !k.isEmbryoOf(slot, child) {
		return 0, api.ErrSlot
	}
	k.slots[child].Kind = api.Ready
	return 0, api.OK
}

func (k *Kernel) exit(slot int, args [3]int) (int, api.Errno) {
	if slot == first {
		return 0, api.ErrSlot
	}
	k.slots[slot].Kind = api.Zombie
	k.slots[slot].Code = args[0]
	for child := range k.slots {
		if k.isChild(slot, child) {
			k.slots[child].Parent = first
		}
	}
	return 0, api.OK
}

func (k *Kernel) drop(slot int, args [3]int) (int, api.Errno) {
	child, page := args[0], args[1]
	if !k.isStillOf(slot, child) {
		return 0, api.ErrSlot
	}
	if !k.hasFrame(child, page) {
		return 0, api.ErrPage
	}
	k.freePage(child, page)
	return 0, api.OK
}

func (k *Kernel) shut(slot int, args [3]int) (int, api.Errno) {
	child, file := args[0], args[1]
	if !k.isStillOf(slot, child) {
		return 0, api.ErrSlot
	}
	if !k.isFile(child, file) {
		return 0, api.ErrFile
	}
	k.closeFile(child, file)
	return 0, api.OK
}

func (k *Kernel) reap(slot int, args [3]int) (int, api.Errno) {
	child := args[0]
	if !k.isStillOf(slot, child) {
		return 0, api.ErrSlot
	}
	for page := range api.Pages {
		if k.hasFrame(child, page) {
			return 0, api.ErrPage
		}
	}
	for file := range api.Files {
		if k.isFile(child, file) {
			return 0, api.ErrFile
		}
	}
	code := k.slots[child].Code
	k.become(k.slots[child].Table, api.Free, none)
	k.slots[child] = emptySlot()
	return code, api.OK
}
