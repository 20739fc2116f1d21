package kernel_test

import (
	"math"
	"testing"

	"burrow/api"
	"burrow/kernel"
)

// holds looks whether a kernel is as it was told ahead, but for what the function writes into that.
func holds(t *testing.T, k *kernel.Kernel, before api.State, change func(s *api.State)) {
	t.Helper()
	want := changed(before, change)
	if s := k.State(); !sameState(s, want) {
		t.Fatalf("State = %+v, want %+v", s, want)
	}
}

func TestExampleOfProcesses(t *testing.T) {
	k := fresh(t, 4, 2, 0)
	run(t, k,
		step{call: api.Map, a: 1, b: 2},
		step{call: api.Store, a: 1, b: 3, c: 9},
		step{call: api.Spawn, a: 1, b: 1},
		step{call: api.Copy, a: 1, b: 1, c: 3},
		step{call: api.Start, a: 1},
		step{by: 1, call: api.Load, a: 1, b: 3, want: 9},
		step{by: 1, call: api.Store, a: 1, b: 3, c: 5},
		step{by: 1, call: api.Load, a: 1, b: 3, want: 5},
		step{call: api.Load, a: 1, b: 3, want: 9},
		step{call: api.Store, a: 1, b: 0, c: 6},
		step{by: 1, call: api.Load, a: 1, b: 0},
	)
}

func TestSpawnMakesAnEmbryo(t *testing.T) {
	for child := 1; child < 6; child++ {
		k := fresh(t, 9, 6, 1)
		before := k.State()
		run(t, k, step{call: api.Spawn, a: child, b: 8})
		holds(t, k, before, func(s *api.State) {
			s.Frames[8] = api.Frame{Kind: api.Table, Owner: child}
			s.Slots[child].Kind, s.Slots[child].Parent, s.Slots[child].Table = api.Embryo, 0, 8
		})
		run(t, k, step{by: child, call: api.Yield, err: api.ErrCaller})
	}
}

func TestSpawnRefused(t *testing.T) {
	k := fresh(t, 5, 3, 1)
	run(t, k,
		step{call: api.Spawn, a: 0, b: 1, err: api.ErrSlot},
		step{call: api.Spawn, a: 0, b: 0, err: api.ErrSlot},
		step{call: api.Spawn, a: 1, b: 0, err: api.ErrFrame},
		step{call: api.Spawn, a: 3, b: 1, err: api.ErrNumber},
		step{call: api.Spawn, a: 1, b: 5, err: api.ErrNumber},
		step{call: api.Spawn, a: 1, b: 2},
		step{call: api.Spawn, a: 1, b: 3, err: api.ErrSlot},
		step{call: api.Spawn, a: 2, b: 2, err: api.ErrFrame},
		step{call: api.Start, a: 1},
		step{call: api.Spawn, a: 1, b: 3, err: api.ErrSlot},
		step{by: 1, call: api.Spawn, a: 1, b: 3, err: api.ErrSlot},
		step{by: 1, call: api.Spawn, a: 0, b: 3, err: api.ErrSlot},
		step{by: 1, call: api.Exit},
		step{call: api.Spawn, a: 1, b: 3, err: api.ErrSlot},
	)
	for _, far := range farNumbers() {
		run(t, k,
			step{call: api.Spawn, a: far, b: 3, err: api.ErrNumber},
			step{call: api.Spawn, a: 2, b: far, err: api.ErrNumber},
		)
	}
}

func TestCopyKeepsWordsAndWhetherItMayBeWritten(t *testing.T) {
	for page := range api.Pages {
		for _, writes := range []int{0, 1} {
			k := fresh(t, 9, 3, 0)
			run(t, k, step{call: api.Map, a: page, b: 4})
			for word := range api.Words {
				run(t, k, step{call: api.Store, a: page, b: word, c: 10 + word})
			}
			run(t, k, step{call: api.Protect, a: page, b: writes}, step{call: api.Spawn, a: 2, b: 5})
			before := k.State()
			run(t, k, step{call: api.Copy, a: 2, b: page, c: 7})
			holds(t, k, before, func(s *api.State) {
				s.Frames[7] = api.Frame{Kind: api.Data, Owner: 2, Words: [4]int{10, 11, 12, 13}}
				s.Slots[2].Pages[page] = api.Entry{Frame: 7, Writes: writes == 1}
			})
			run(t, k,
				step{call: api.Protect, a: page, b: 1 - writes},
				step{call: api.Copy, a: 2, b: page, c: 8, err: api.ErrPage},
				step{call: api.Drop, a: 2, b: page},
				step{call: api.Copy, a: 2, b: page, c: 8},
			)
		}
	}
}

func TestCopyRefused(t *testing.T) {
	k := fresh(t, 6, 3, 0)
	run(t, k,
		step{call: api.Map, a: 1, b: 1},
		step{call: api.Copy, a: 1, b: 1, c: 2, err: api.ErrSlot},
		step{call: api.Spawn, a: 1, b: 2},
		step{call: api.Copy, a: 2, b: 0, c: 0, err: api.ErrSlot},
		step{call: api.Copy, a: 1, b: 0, c: 3, err: api.ErrPage},
		step{call: api.Copy, a: 1, b: 0, c: 0, err: api.ErrPage},
		step{call: api.Copy, a: 1, b: 1, c: 0, err: api.ErrFrame},
		step{call: api.Copy, a: 1, b: 1, c: 1, err: api.ErrFrame},
		step{call: api.Copy, a: 1, b: 1, c: 2, err: api.ErrFrame},
		step{call: api.Copy, a: 1, b: 1, c: 3},
		step{call: api.Copy, a: 1, b: 1, c: 4, err: api.ErrPage},
		step{call: api.Copy, a: 1, b: 1, c: 3, err: api.ErrPage},
		step{call: api.Unmap, a: 1},
		step{call: api.Copy, a: 1, b: 1, c: 4, err: api.ErrPage},
		step{call: api.Copy, a: 3, b: 1, c: 4, err: api.ErrNumber},
		step{call: api.Copy, a: 1, b: 4, c: 4, err: api.ErrNumber},
		step{call: api.Copy, a: 1, b: 1, c: 6, err: api.ErrNumber},
	)
}

func TestGiveIsTheSameEnd(t *testing.T) {
	k := fresh(t, 4, 2, 1)
	run(t, k, step{call: api.Pipe, a: 0, b: 1, c: 1}, step{call: api.Spawn, a: 1, b: 2})
	before := k.State()
	run(t, k,
		step{call: api.Give, a: 1, b: 1, c: 3},
		step{call: api.Give, a: 1, b: 2, c: 0},
		step{call: api.Give, a: 1, b: 2, c: 2},
	)
	holds(t, k, before, func(s *api.State) {
		s.Slots[1].Files[3] = api.File{Pipe: 0}
		s.Slots[1].Files[0] = api.File{Pipe: 0, Writes: true}
		s.Slots[1].Files[2] = api.File{Pipe: 0, Writes: true}
		s.Ducts[0] = api.Duct{Frame: 1, Readers: 2, Writers: 3}
	})
}

func TestGiveRefused(t *testing.T) {
	k := fresh(t, 6, 3, 2)
	run(t, k,
		step{call: api.Pipe, a: 0, b: 1, c: 0},
		step{call: api.Give, a: 1, b: 0, c: 0, err: api.ErrSlot},
		step{call: api.Spawn, a: 1, b: 2},
		step{call: api.Give, a: 2, b: 3, c: 0, err: api.ErrSlot},
		step{call: api.Give, a: 1, b: 2, c: 0, err: api.ErrFile},
		step{call: api.Give, a: 1, b: 0, c: 0},
		step{call: api.Give, a: 1, b: 0, c: 0, err: api.ErrFile},
		step{call: api.Give, a: 1, b: 1, c: 0, err: api.ErrFile},
		step{call: api.Give, a: 3, b: 0, c: 1, err: api.ErrNumber},
		step{call: api.Give, a: 1, b: 4, c: 1, err: api.ErrNumber},
		step{call: api.Give, a: 1, b: 0, c: 4, err: api.ErrNumber},
		step{call: api.Close, a: 0},
		step{call: api.Give, a: 1, b: 0, c: 1, err: api.ErrFile},
	)
}

func TestStartMakesItReady(t *testing.T) {
	k := fresh(t, 4, 2, 0)
	run(t, k, step{call: api.Spawn, a: 1, b: 2})
	before := k.State()
	run(t, k, step{call: api.Start, a: 1})
	holds(t, k, before, func(s *api.State) { s.Slots[1].Kind = api.Ready })
	run(t, k,
		step{call: api.Start, a: 1, err: api.ErrSlot},
		step{call: api.Start, a: 2, err: api.ErrNumber},
		step{by: 1, call: api.Yield},
	)
}

// kin is a kernel with processes of all kinds; each has page 0 and the files 0 and 1. Of the process 1, which is Ready, 0 is the parent, 2 an Embryo, 3 a Ready child and 4 a Zombie; 5 is None.
func kin(t *testing.T) *kernel.Kernel {
	t.Helper()
	k := fresh(t, 20, 6, 2)
	run(t, k, step{call: api.Map, a: 0, b: 10}, step{call: api.Pipe, a: 0, b: 11, c: 0})
	for _, made := range [][2]int{{0, 1}, {1, 2}, {1, 3}, {1, 4}} {
		parent, child := made[0], made[1]
		run(t, k,
			step{by: parent, call: api.Spawn, a: child, b: child},
			step{by: parent, call: api.Copy, a: child, b: 0, c: 11 + child},
			step{by: parent, call: api.Give, a: child, b: 0, c: 0},
			step{by: parent, call: api.Give, a: child, b: 1, c: 1},
		)
		if child != 2 {
			run(t, k, step{by: parent, call: api.Start, a: child})
		}
	}
	run(t, k, step{by: 4, call: api.Exit, a: 44})
	return k
}

// Copy, Give and Start are of an Embryo that is a child: of none that is oneself, Ready, a Zombie, None, the parent, or another one's child.
func TestOnlyAnEmbryoThatIsAChildIsGivenTo(t *testing.T) {
	for _, call := range []int{api.Copy, api.Give, api.Start} {
		k := kin(t)
		for _, other := range []int{0, 1, 3, 4, 5} {
			run(t, k, step{by: 1, call: call, a: other, b: 0, c: 3, err: api.ErrSlot})
		}
		for other := range 6 {
			run(t, k,
				step{by: 0, call: call, a: other, b: 0, c: 3, err: api.ErrSlot},
				step{by: 3, call: call, a: other, b: 0, c: 3, err: api.ErrSlot},
			)
		}
		run(t, k, step{by: 1, call: api.Drop, a: 2, b: 0})
		frameOrFile := map[int]int{api.Copy: 19, api.Give: 3, api.Start: 0}[call]
		run(t, k, step{by: 1, call: call, a: 2, b: 0, c: frameOrFile})
	}
}

// Drop, Shut and Reap are of an Embryo or a Zombie that is a child: of none that is oneself, Ready, None, the parent, or another one's child.
func TestOnlyAStillChildIsTakenApart(t *testing.T) {
	for _, call := range []int{api.Drop, api.Shut, api.Reap} {
		k := kin(t)
		for _, other := range []int{0, 1, 3, 5} {
			run(t, k, step{by: 1, call: call, a: other, b: 0, err: api.ErrSlot})
		}
		for other := range 6 {
			run(t, k,
				step{by: 0, call: call, a: other, b: 0, err: api.ErrSlot},
				step{by: 3, call: call, a: other, b: 0, err: api.ErrSlot},
			)
		}
		for _, far := range append(farNumbers(), 6) {
			run(t, k, step{by: 1, call: call, a: far, b: 0, err: api.ErrNumber})
			if call != api.Reap {
				run(t, k, step{by: 1, call: call, a: 2, b: far, err: api.ErrNumber})
			}
		}
	}
}

func TestDropFreesThePage(t *testing.T) {
	for _, child := range []int{2, 4} {
		k := kin(t)
		before := k.State()
		run(t, k,
			step{by: 1, call: api.Drop, a: child, b: 1, err: api.ErrPage},
			step{by: 1, call: api.Drop, a: child, b: 0},
			step{by: 1, call: api.Drop, a: child, b: 0, err: api.ErrPage},
		)
		holds(t, k, before, func(s *api.State) {
			s.Frames[11+child] = api.Frame{Owner: -1}
			s.Slots[child].Pages[0] = api.Entry{Frame: -1}
		})
	}
}

func TestShutClosesTheFile(t *testing.T) {
	for _, child := range []int{2, 4} {
		k := kin(t)
		before := k.State()
		run(t, k,
			step{by: 1, call: api.Shut, a: child, b: 2, err: api.ErrFile},
			step{by: 1, call: api.Shut, a: child, b: 1},
			step{by: 1, call: api.Shut, a: child, b: 1, err: api.ErrFile},
		)
		holds(t, k, before, func(s *api.State) {
			s.Slots[child].Files[1] = api.File{Pipe: -1}
			s.Ducts[0].Writers--
		})
	}
}

// A pipe lives as long as anybody has a file of it, and ends with the last one that is shut.
func TestTheLastFileThatIsShutEndsThePipe(t *testing.T) {
	k := fresh(t, 6, 2, 1)
	run(t, k,
		step{call: api.Map, a: 0, b: 1},
		step{call: api.Store, a: 0, b: 0, c: 3},
		step{call: api.Pipe, a: 0, b: 2, c: 0},
		step{call: api.Write, a: 1, b: 0, c: 0},
		step{call: api.Spawn, a: 1, b: 4},
		step{call: api.Give, a: 1, b: 0, c: 2},
		step{call: api.Give, a: 1, b: 1, c: 3},
		step{call: api.Close, a: 0},
		step{call: api.Close, a: 1},
		step{call: api.Start, a: 1},
		step{by: 1, call: api.Exit},
		step{call: api.Pipe, a: 0, b: 5, c: 0, err: api.ErrState},
	)
	duct(t, k.State(), 0, api.Duct{Frame: 2, Count: 1, Readers: 1, Writers: 1})
	run(t, k, step{call: api.Shut, a: 1, b: 2})
	duct(t, k.State(), 0, api.Duct{Frame: 2, Count: 1, Writers: 1})
	run(t, k, step{call: api.Shut, a: 1, b: 3})
	duct(t, k.State(), 0, api.Duct{Frame: -1})
	if f := k.State().Frames[2]; f != (api.Frame{Owner: -1}) {
		t.Errorf("the ring's frame is %+v", f)
	}
	run(t, k, step{call: api.Pipe, a: 0, b: 2, c: 0})
}

func TestReapAsksForPagesThenFiles(t *testing.T) {
	for child, code := range map[int]int{2: 0, 4: 44} {
		k := kin(t)
		run(t, k,
			step{by: 1, call: api.Reap, a: child, err: api.ErrPage},
			step{by: 1, call: api.Drop, a: child, b: 0},
			step{by: 1, call: api.Reap, a: child, err: api.ErrFile},
			step{by: 1, call: api.Shut, a: child, b: 0},
			step{by: 1, call: api.Reap, a: child, err: api.ErrFile},
			step{by: 1, call: api.Shut, a: child, b: 1},
		)
		before := k.State()
		run(t, k,
			step{by: 1, call: api.Reap, a: child, want: code},
			step{by: 1, call: api.Reap, a: child, err: api.ErrSlot},
		)
		holds(t, k, before, func(s *api.State) {
			s.Frames[child] = api.Frame{Owner: -1}
			s.Slots[child] = emptySlot()
		})
	}
}

// Each page and each file alone stands in Reap's way.
func TestReapAsksForEachPageAndFile(t *testing.T) {
	for n := range api.Pages {
		k := fresh(t, 6, 2, 0)
		run(t, k,
			step{call: api.Map, a: n, b: 1},
			step{call: api.Spawn, a: 1, b: 2},
			step{call: api.Copy, a: 1, b: n, c: 3},
			step{call: api.Reap, a: 1, err: api.ErrPage},
		)
	}
	for n := range api.Files {
		k := fresh(t, 6, 2, 1)
		run(t, k,
			step{call: api.Pipe, a: 0, b: 1, c: 1},
			step{call: api.Spawn, a: 1, b: 2},
			step{call: api.Give, a: 1, b: 1, c: n},
			step{call: api.Reap, a: 1, err: api.ErrFile},
		)
	}
}

func TestExitTellsAnyCode(t *testing.T) {
	for _, code := range append(farNumbers(), 0, 1, 6, math.MaxInt-1) {
		k := fresh(t, 4, 2, 0)
		run(t, k, step{call: api.Spawn, a: 1, b: 2}, step{call: api.Start, a: 1})
		before := k.State()
		run(t, k, step{by: 1, call: api.Exit, a: code})
		holds(t, k, before, func(s *api.State) { s.Slots[1].Kind, s.Slots[1].Code = api.Zombie, code })
		run(t, k,
			step{by: 1, call: api.Yield, err: api.ErrCaller},
			step{by: 1, call: api.Exit, a: 3, err: api.ErrCaller},
			step{call: api.Start, a: 1, err: api.ErrSlot},
			step{call: api.Reap, a: 1, want: code},
			step{by: 1, call: api.Exit, a: 3, err: api.ErrCaller},
		)
		// who comes behind it knows nothing of the Code
		run(t, k,
			step{call: api.Spawn, a: 1, b: 3},
			step{call: api.Reap, a: 1},
		)
	}
}

func TestTheProcess0MayNotExit(t *testing.T) {
	k := fresh(t, 4, 2, 0)
	for _, code := range append(farNumbers(), 0, 1) {
		run(t, k, step{call: api.Exit, a: code, err: api.ErrSlot})
	}
	run(t, k, step{call: api.Spawn, a: 1, b: 2}, step{call: api.Exit, err: api.ErrSlot}, step{call: api.Yield})
}

// Exit hands all children on to the process 0, and nobody else; what the process has, it keeps until it is taken apart.
func TestExitHandsChildrenOn(t *testing.T) {
	k := kin(t)
	run(t, k, step{by: 3, call: api.Spawn, a: 5, b: 19})
	before := k.State()
	run(t, k, step{by: 1, call: api.Exit, a: -7})
	holds(t, k, before, func(s *api.State) {
		s.Slots[1].Kind, s.Slots[1].Code = api.Zombie, -7
		s.Slots[2].Parent, s.Slots[3].Parent, s.Slots[4].Parent = 0, 0, 0
	})
	run(t, k,
		step{call: api.Start, a: 5, err: api.ErrSlot},
		step{call: api.Start, a: 3, err: api.ErrSlot},
		step{call: api.Start, a: 2},
		step{call: api.Drop, a: 4, b: 0},
		step{call: api.Shut, a: 4, b: 0},
		step{call: api.Shut, a: 4, b: 1},
		step{call: api.Reap, a: 4, want: 44},
		step{by: 3, call: api.Exit, a: 33},
		step{call: api.Reap, a: 5},
	)
}

// Readers and Writers count the files of all processes, also of those that make no calls.
func TestEndsOfAllProcessesCount(t *testing.T) {
	k := fresh(t, 8, 3, 1)
	run(t, k,
		step{call: api.Map, a: 0, b: 1},
		step{call: api.Store, a: 0, b: 0, c: 3},
		step{call: api.Pipe, a: 0, b: 2, c: 0},
		step{call: api.Spawn, a: 1, b: 3},
		step{call: api.Give, a: 1, b: 0, c: 0},
		step{call: api.Close, a: 0},
		step{call: api.Write, a: 1, b: 0, c: 0},
		step{call: api.Shut, a: 1, b: 0},
		step{call: api.Write, a: 1, b: 0, c: 0, err: api.ErrBroken},
		step{call: api.Close, a: 1},
		step{call: api.Pipe, a: 0, b: 2, c: 0},
		step{call: api.Give, a: 1, b: 1, c: 1},
		step{call: api.Start, a: 1},
		step{call: api.Close, a: 1},
		step{call: api.Read, a: 0, b: 0, c: 1, err: api.ErrAgain},
		step{by: 1, call: api.Exit},
		step{call: api.Read, a: 0, b: 0, c: 1, err: api.ErrAgain},
		step{call: api.Shut, a: 1, b: 1},
		step{call: api.Read, a: 0, b: 0, c: 1, err: api.ErrEnd},
	)
}

func TestWordsGoFromProcessToProcess(t *testing.T) {
	k := kin(t)
	for i := range 10 {
		run(t, k,
			step{by: 1, call: api.Store, a: 0, b: 1, c: 100 + i},
			step{by: 1, call: api.Write, a: 1, b: 0, c: 1},
			step{by: 3, call: api.Store, a: 0, b: 2, c: 200 + i},
			step{by: 3, call: api.Write, a: 1, b: 0, c: 2},
			step{by: 3, call: api.Read, a: 0, b: 0, c: 3},
			step{by: 3, call: api.Load, a: 0, b: 3, want: 100 + i},
			step{by: 0, call: api.Read, a: 0, b: 0, c: 0},
			step{by: 0, call: api.Load, a: 0, b: 0, want: 200 + i},
			step{by: 1, call: api.Read, a: 0, b: 0, c: 0, err: api.ErrAgain},
		)
	}
}

// A process has pages and files of its own numbers: those of another one do not stand in its way.
func TestProcessesHaveTheirOwnPagesAndFiles(t *testing.T) {
	k := fresh(t, 9, 2, 2)
	run(t, k,
		step{call: api.Map, a: 0, b: 1},
		step{call: api.Pipe, a: 0, b: 2, c: 0},
		step{call: api.Spawn, a: 1, b: 3},
		step{call: api.Start, a: 1},
		step{by: 1, call: api.Load, a: 0, b: 0, err: api.ErrPage},
		step{by: 1, call: api.Unmap, a: 0, err: api.ErrPage},
		step{by: 1, call: api.Close, a: 0, err: api.ErrFile},
		step{by: 1, call: api.Map, a: 0, b: 1, err: api.ErrFrame},
		step{by: 1, call: api.Pipe, a: 0, b: 4, c: 0, err: api.ErrState},
	)
	before := k.State()
	run(t, k, step{by: 1, call: api.Map, a: 0, b: 5}, step{by: 1, call: api.Pipe, a: 1, b: 6, c: 0})
	holds(t, k, before, func(s *api.State) {
		s.Frames[5] = api.Frame{Kind: api.Data, Owner: 1}
		s.Frames[6] = api.Frame{Kind: api.Ring, Owner: -1}
		s.Slots[1].Pages[0] = api.Entry{Frame: 5, Writes: true}
		s.Slots[1].Files[0], s.Slots[1].Files[1] = api.File{Pipe: 1}, api.File{Pipe: 1, Writes: true}
		s.Ducts[1] = api.Duct{Frame: 6, Readers: 1, Writers: 1}
	})
}
