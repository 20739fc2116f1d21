package kernel

import "burrow/api"

// thing is what an argument is a number of.
type thing int

const (
	anything thing = iota // of nothing: any value may stand there
	aFrame
	aSlot
	aPipe
	aPage
	aFile
	aWord
)

// row is a call: is there one, and what do its arguments number?
type row struct {
	there bool
	args  [3]thing
}

// calls has each call at its number. Which method does it, Kernel.do tells: the table holds no functions.
var calls = makeCalls()

func makeCalls() [api.Store + 1]row {
	return [api.Store + 1]row{
		api.Yield:   numbering(),
		api.Map:     numbering(aPage, aFrame),
		api.Unmap:   numbering(aPage),
		api.Protect: numbering(aPage, anything),
		api.Spawn:   numbering(aSlot, aFrame),
		api.Copy:    numbering(aSlot, aPage, aFrame),
		api.Give:    numbering(aSlot, aFile, aFile),
		api.Start:   numbering(aSlot),
		api.Exit:    numbering(anything),
		api.Drop:    numbering(aSlot, aPage),
		api.Shut:    numbering(aSlot, aFile),
		api.Reap:    numbering(aSlot),
		api.Pipe:    numbering(aPipe, aFrame, aFile),
		api.Dup:     numbering(aFile, aFile),
		api.Close:   numbering(aFile),
		api.Write:   numbering(aFile, aPage, aWord),
		api.Read:    numbering(aFile, aPage, aWord),
		api.Load:    numbering(aPage, aWord),
		api.Store:   numbering(aPage, aWord, anything),
	}
}

// numbering is the row of a call whose first arguments are numbers of these things.
func numbering(things ...thing) row {
	r := row{there: true}
	copy(r.args[:], things)
	return r
}

// Call does a call of a process (P4 to P8).
func (k *Kernel) Call(slot int, call int, args [3]int) (int, api.Errno) {
	if !isOne(call, len(calls)) || !calls[call].there {
		return 0, api.ErrCall
	}
	if !isOne(slot, len(k.slots)) || k.slots[slot].Kind != api.Ready {
		return 0, api.ErrCaller
	}
	for i, t := range calls[call].args {
		if t != anything && !isOne(args[i], k.howMany(t)) {
			return 0, api.ErrNumber
		}
	}
	return k.do(slot, call, args)
}

// do lets a method do a call; it may rely on the caller being Ready, and on the numbers that the call's row tells of.
func (k *Kernel) do(slot, call int, args [3]int) (int, api.Errno) {
	switch call {
	case api.Yield:
		return 0, api.OK
	case api.Map:
		return k.mapPage(slot, args)
	case api.Unmap:
		return k.unmap(slot, args)
	case api.Protect:
		return k.protect(slot, args)
	case api.Spawn:
		return k.spawn(slot, args)
	case api.Copy:
		return k.copyPage(slot, args)
	case api.Give:
		return k.give(slot, args)
	case api.Start:
		return k.start(slot, args)
	case api.Exit:
		return k.exit(slot, args)
	case api.Drop:
		return k.drop(slot, args)
	case api.Shut:
		return k.shut(slot, args)
	case api.Reap:
		return k.reap(slot, args)
	case api.Pipe:
		return k.pipe(slot, args)
	case api.Dup:
		return k.dup(slot, args)
	case api.Close:
		return k.close(slot, args)
	case api.Write:
		return k.write(slot, args)
	case api.Read:
		return k.read(slot, args)
	case api.Load:
		return k.load(slot, args)
	case api.Store:
		return k.store(slot, args)
	}
	return 0, api.ErrCall
}

// isOne: is a number one of so many things?
func isOne(number, many int) bool { return number >= 0 && number < many }

func (k *Kernel) howMany(t thing) int {
	switch t {
	case aFrame:
		return len(k.frames)
	case aSlot:
		return len(k.slots)
	case aPipe:
		return len(k.ducts)
	case aPage:
		return api.Pages
	case aFile:
		return api.Files
	case aWord:
		return api.Words
	}
	return 0
}
