// Package kernel: a small kernel: see DOC.md.
package kernel

import "burrow/api"

// none stands where there is no frame, pipe, parent or owner.
const none = -1

// Kernel is frames, processes, pipes.
type Kernel struct {
	frames []api.Frame
	slots  []api.Slot
	ducts  []api.Duct
}

// New makes one (P3).
func New(c api.Config) (*Kernel, api.Errno) {
	if !within(c.Frames, 2, api.MaxFrames) || !within(c.Slots, 1, api.MaxSlots) || !within(c.Pipes, 0, api.MaxPipes) {
		return nil, api.ErrConfig
	}
	k := &Kernel{
		frames: filled(c.Frames, api.Frame{Owner: none}),
		slots:  filled(c.Slots, emptySlot()),
		ducts:  filled(c.Pipes, api.Duct{Frame: none}),
	}
	k.become(0, api.Table, 0)
	k.slots[0].Kind = api.Ready
	k.slots[0].Table = 0
	return k, api.OK
}

// State tells all that there is (P3).
func (k *Kernel) State() api.State {
	return api.State{
		Frames: copied(k.frames),
		Slots:  copied(k.slots),
		Ducts:  copied(k.ducts),
	}
}

func within(n, least, most int) bool { return n >= least && n <= most }

// emptySlot is a process that is None: what it would name is -1, as 0 would be a thing that there is.
func emptySlot() api.Slot {
	s := api.Slot{Parent: none, Table: none}
	for i := range s.Pages {
		s.Pages[i].Frame = none
	}
	for i := range s.Files {
		s.Files[i].Pipe = none
	}
	return s
}

func filled[T any](n int, value T) []T {
	list := make([]T, n)
	for i := range list {
		list[i] = value
	}
	return list
}

func copied[T any](list []T) []T {
	fresh := make([]T, len(list))
	copy(fresh, list)
	return fresh
}
