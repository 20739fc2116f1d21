package kernel_test

import "burrow/api"

// deed is a call's caller and arguments, and the state ahead of it.
type deed struct {
	s           api.State
	by, a, b, c int
}

func (d deed) me() api.Slot         { return d.s.Slots[d.by] }
func (d deed) child() api.Slot      { return d.s.Slots[d.a] }
func (d deed) page(n int) api.Entry { return d.me().Pages[n] }
func (d deed) file(n int) api.File  { return d.me().Files[n] }
func (d deed) duct(n int) api.Duct  { return d.s.Ducts[d.file(n).Pipe] }

func (d deed) taken(frame int) bool { return d.s.Frames[frame].Kind != api.Free }
func (d deed) pageWithout() bool    { return d.page(d.a).Frame == -1 }

// noEmbryo and noStill: the process is not what Copy, Give and Start ask for, or Drop, Shut and Reap.
func (d deed) noEmbryo() bool { return d.child().Kind != api.Embryo || d.child().Parent != d.by }
func (d deed) noStill() bool {
	return d.child().Kind != api.Embryo && d.child().Kind != api.Zombie || d.child().Parent != d.by
}

// rule is an error, and when a call has it.
type rule struct {
	err  api.Errno
	when func(d deed) bool
}

func frames(s api.State) int { return len(s.Frames) }
func slots(s api.State) int  { return len(s.Slots) }
func pipes(s api.State) int  { return len(s.Ducts) }
func four(s api.State) int   { return 4 }

// numbers is the rule that comes ahead of the call's own: how many there are of what each argument numbers.
func numbers(many ...func(s api.State) int) rule {
	return rule{api.ErrNumber, func(d deed) bool {
		args := [3]int{d.a, d.b, d.c}
		for i, m := range many {
			if args[i] < 0 || args[i] >= m(d.s) {
				return true
			}
		}
		return false
	}}
}

// rules tells of each call its errors behind ErrCaller, in the document's order.
func rules() map[int][]rule {
	all := map[int][]rule{}
	for _, some := range []map[int][]rule{memoryRules(), childRules(), endRules(), pipeRules()} {
		for call, rs := range some {
			all[call] = rs
		}
	}
	return all
}

func memoryRules() map[int][]rule {
	return map[int][]rule{
		api.Yield: nil,
		api.Map: {numbers(four, frames),
			{api.ErrPage, func(d deed) bool { return d.page(d.a).Frame != -1 }},
			{api.ErrFrame, func(d deed) bool { return d.taken(d.b) }}},
		api.Unmap:   {numbers(four), {api.ErrPage, deed.pageWithout}},
		api.Protect: {numbers(four), {api.ErrPage, deed.pageWithout}},
		api.Load:    {numbers(four, four), {api.ErrPage, deed.pageWithout}},
		api.Store: {numbers(four, four),
			{api.ErrPage, func(d deed) bool { return d.page(d.a).Frame == -1 || !d.page(d.a).Writes }}},
	}
}

func childRules() map[int][]rule {
	return map[int][]rule{
		api.Spawn: {numbers(slots, frames),
			{api.ErrSlot, func(d deed) bool { return d.child().Kind != api.None }},
			{api.ErrFrame, func(d deed) bool { return d.taken(d.b) }}},
		api.Copy: {numbers(slots, four, frames),
			{api.ErrSlot, deed.noEmbryo},
			{api.ErrPage, func(d deed) bool { return d.page(d.b).Frame == -1 || d.child().Pages[d.b].Frame != -1 }},
			{api.ErrFrame, func(d deed) bool { return d.taken(d.c) }}},
		api.Give: {numbers(slots, four, four),
			{api.ErrSlot, deed.noEmbryo},
			{api.ErrFile, func(d deed) bool { return d.file(d.b).Pipe == -1 || d.child().Files[d.c].Pipe != -1 }}},
		api.Start: {numbers(slots), {api.ErrSlot, deed.noEmbryo}},
	}
}

func endRules() map[int][]rule {
	return map[int][]rule{
		api.Exit: {{api.ErrSlot, func(d deed) bool { return d.by == 0 }}},
		api.Drop: {numbers(slots, four),
			{api.ErrSlot, deed.noStill},
			{api.ErrPage, func(d deed) bool { return d.child().Pages[d.b].Frame == -1 }}},
		api.Shut: {numbers(slots, four),
			{api.ErrSlot, deed.noStill},
			{api.ErrFile, func(d deed) bool { return d.child().Files[d.b].Pipe == -1 }}},
		api.Reap: {numbers(slots),
			{api.ErrSlot, deed.noStill},
			{api.ErrPage, func(d deed) bool { return d.child().Pages != emptySlot().Pages }},
			{api.ErrFile, func(d deed) bool { return d.child().Files != emptySlot().Files }}},
	}
}

func pipeRules() map[int][]rule {
	return map[int][]rule{
		api.Pipe: {numbers(pipes, frames, four),
			{api.ErrState, func(d deed) bool { return d.s.Ducts[d.a].Frame != -1 }},
			{api.ErrFrame, func(d deed) bool { return d.taken(d.b) }},
			{api.ErrFile, func(d deed) bool { return d.file(d.c).Pipe != -1 || d.c == 3 || d.file(d.c+1).Pipe != -1 }}},
		api.Dup: {numbers(four, four),
			{api.ErrFile, func(d deed) bool { return d.file(d.a).Pipe == -1 || d.file(d.b).Pipe != -1 }}},
		api.Close: {numbers(four),
			{api.ErrFile, func(d deed) bool { return d.file(d.a).Pipe == -1 }}},
		api.Write: {numbers(four, four, four),
			{api.ErrFile, func(d deed) bool { return d.file(d.a).Pipe == -1 || !d.file(d.a).Writes }},
			{api.ErrPage, func(d deed) bool { return d.page(d.b).Frame == -1 }},
			{api.ErrBroken, func(d deed) bool { return d.duct(d.a).Readers == 0 }},
			{api.ErrAgain, func(d deed) bool { return d.duct(d.a).Count == 4 }}},
		api.Read: {numbers(four, four, four),
			{api.ErrFile, func(d deed) bool { return d.file(d.a).Pipe == -1 || d.file(d.a).Writes }},
			{api.ErrPage, func(d deed) bool { return d.page(d.b).Frame == -1 || !d.page(d.b).Writes }},
			{api.ErrEnd, func(d deed) bool { return d.duct(d.a).Count == 0 && d.duct(d.a).Writers == 0 }},
			{api.ErrAgain, func(d deed) bool { return d.duct(d.a).Count == 0 }}},
	}
}

// refusal is the first error of any call at all.
func refusal(all map[int][]rule, call int, d deed) api.Errno {
	rs, there := all[call]
	if !there {
		return api.ErrCall
	}
	if d.by < 0 || d.by >= len(d.s.Slots) || d.me().Kind != api.Ready {
		return api.ErrCaller
	}
	for _, r := range rs {
		if r.when(d) {
			return r.err
		}
	}
	return api.OK
}
