package kernel_test

import "burrow/api"

// outcome is what a call that is done must answer, and leave: processes, words and what is in the pipes are changed call by call, and who has which frame, and how many ends there are, is counted anew from these.
func outcome(call int, d deed) (int, api.State) {
	answer := 0
	s := changed(d.s, func(s *api.State) {
		switch {
		case call >= api.Spawn && call <= api.Reap:
			answer = processEffect(s, call, d)
		case call >= api.Pipe && call <= api.Read:
			pipeEffect(s, call, d)
		default:
			answer = memoryEffect(s, call, d)
		}
	})
	for i := range s.Ducts {
		s.Ducts[i].Readers, s.Ducts[i].Writers = countEnds(s, i)
		if s.Ducts[i].Readers+s.Ducts[i].Writers == 0 {
			s.Ducts[i] = api.Duct{Frame: -1}
		}
	}
	s.Frames, _ = framesByUse(s)
	return answer, s
}

func memoryEffect(s *api.State, call int, d deed) int {
	me := &s.Slots[d.by]
	switch call {
	case api.Map:
		me.Pages[d.a] = api.Entry{Frame: d.b, Writes: true}
	case api.Unmap:
		me.Pages[d.a] = api.Entry{Frame: -1}
	case api.Protect:
		me.Pages[d.a].Writes = d.b != 0
	case api.Load:
		return s.Frames[me.Pages[d.a].Frame].Words[d.b]
	case api.Store:
		s.Frames[me.Pages[d.a].Frame].Words[d.b] = d.c
	}
	return 0
}

func processEffect(s *api.State, call int, d deed) int {
	me := &s.Slots[d.by]
	if call == api.Exit {
		me.Kind, me.Code = api.Zombie, d.a
		for i := range s.Slots {
			if s.Slots[i].Parent == d.by {
				s.Slots[i].Parent = 0
			}
		}
		return 0
	}
	child := &s.Slots[d.a]
	switch call {
	case api.Spawn:
		child.Kind, child.Parent, child.Table = api.Embryo, d.by, d.b
	case api.Copy:
		child.Pages[d.b] = api.Entry{Frame: d.c, Writes: me.Pages[d.b].Writes}
		s.Frames[d.c].Words = s.Frames[me.Pages[d.b].Frame].Words
	case api.Give:
		child.Files[d.c] = me.Files[d.b]
	case api.Start:
		child.Kind = api.Ready
	case api.Drop:
		child.Pages[d.b] = api.Entry{Frame: -1}
	case api.Shut:
		child.Files[d.b] = api.File{Pipe: -1}
	case api.Reap:
		*child = emptySlot()
		return d.child().Code
	}
	return 0
}

func pipeEffect(s *api.State, call int, d deed) {
	files := &s.Slots[d.by].Files
	switch call {
	case api.Pipe:
		s.Ducts[d.a] = api.Duct{Frame: d.b}
		files[d.c], files[d.c+1] = api.File{Pipe: d.a}, api.File{Pipe: d.a, Writes: true}
		return
	case api.Dup:
		files[d.b] = files[d.a]
		return
	case api.Close:
		files[d.a] = api.File{Pipe: -1}
		return
	}
	duct := &s.Ducts[files[d.a].Pipe]
	word := &s.Frames[d.page(d.b).Frame].Words[d.c]
	ring := &s.Frames[duct.Frame].Words
	if call == api.Write {
		ring[(duct.Head+duct.Count)%4] = *word
		duct.Count++
		return
	}
	*word = ring[duct.Head]
	duct.Head = (duct.Head + 1) % 4
	duct.Count--
}
