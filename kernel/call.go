package kernel

import "burrow/api"

// thing is what an argument is a number of.
type thing int

const (
	anything thing = iota // of nothing: any value may stand there
	aFrame
	aPipe
	aPage
	aFile
	aWord
)

// row is a call: what its arguments number, and what does it. What does it may rely on its caller being Ready, and on these numbers.
type row struct {
	args [3]thing
	do   func(k *Kernel, slot int, args [3]int) (int, api.Errno)
}

// calls has each call at its number; a row that does nothing is no call.
var calls = makeCalls()

func makeCalls() [api.Store + 1]row {
	return [api.Store + 1]row{
		api.Yield:   {do: (*Kernel).yield},
		api.Map:     {args: [3]thing{aPage, aFrame}, do: (*Kernel).mapPage},
		api.Unmap:   {args: [3]thing{aPage}, do: (*Kernel).unmap},
		api.Protect: {args: [3]thing{aPage, anything}, do: (*Kernel).protect},
		api.Pipe:    {args: [3]thing{aPipe, aFrame, aFile}, do: (*Kernel).pipe},
		api.Dup:     {args: [3]thing{aFile, aFile}, do: (*Kernel).dup},
		api.Close:   {args: [3]thing{aFile}, do: (*Kernel).close},
		api.Write:   {args: [3]thing{aFile, aPage, aWord}, do: (*Kernel).write},
		api.Read:    {args: [3]thing{aFile, aPage, aWord}, do: (*Kernel).read},
		api.Load:    {args: [3]thing{aPage, aWord}, do: (*Kernel).load},
		api.Store:   {args: [3]thing{aPage, aWord, anything}, do: (*Kernel).store},
	}
}

// Call does a call of a process (P4 to P8).
func (k *Kernel) Call(slot int, call int, args [3]int) (int, api.Errno) {
	if !isOne(call, len(calls)) || calls[call].do == nil {
		return 0, api.ErrCall
	}
	if !isOne(slot, len(k.slots)) || k.slots[slot].Kind != api.Ready {
		return 0, api.ErrCaller
	}
	for i, t := range calls[call].args {
		if t != anything && !isOne(args[i], k.howMany(t)) {
			return 0, api.ErrNumber
		}
	}
	return calls[call].do(k, slot, args)
}

// isOne: is a number one of so many things?
func isOne(number, many int) bool { return number >= 0 && number < many }

func (k *Kernel) howMany(t thing) int {
	switch t {
	case aFrame:
		return len(k.frames)
	case aPipe:
		return len(k.ducts)
	case aPage:
		return api.Pages
	case aFile:
		return api.Files
	case aWord:
		return api.Words
	}
	return 0
}
