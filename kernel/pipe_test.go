package kernel_test

import (
	"testing"

	"burrow/api"
)

func duct(t *testing.T, s api.State, pipe int, want api.Duct) {
	t.Helper()
	if s.Ducts[pipe] != want {
		t.Errorf("pipe %d is %+v, want %+v", pipe, s.Ducts[pipe], want)
	}
}

func TestExampleOfPipes(t *testing.T) {
	k := fresh(t, 4, 1, 1)
	run(t, k,
		step{call: api.Map, a: 1, b: 2},
		step{call: api.Store, a: 1, b: 3, c: 9},
		step{call: api.Pipe, a: 0, b: 3, c: 1},
		step{call: api.Write, a: 2, b: 1, c: 3},
		step{call: api.Read, a: 1, b: 1, c: 0},
		step{call: api.Load, a: 1, b: 0, want: 9},
		step{call: api.Close, a: 2},
		step{call: api.Read, a: 1, b: 1, c: 0, err: api.ErrEnd},
		step{call: api.Close, a: 1},
	)
	duct(t, k.State(), 0, api.Duct{Frame: -1})
}

func TestPipeMakesTwoEnds(t *testing.T) {
	for file := range api.Files - 1 {
		k := fresh(t, 4, 1, 2)
		run(t, k, step{call: api.Pipe, a: 1, b: 2, c: file})
		want := firstState(api.Config{Frames: 4, Slots: 1, Pipes: 2})
		want.Frames[2] = api.Frame{Kind: api.Ring, Owner: -1}
		want.Slots[0].Files[file] = api.File{Pipe: 1}
		want.Slots[0].Files[file+1] = api.File{Pipe: 1, Writes: true}
		want.Ducts[1] = api.Duct{Frame: 2, Readers: 1, Writers: 1}
		if s := k.State(); !sameState(s, want) {
			t.Errorf("Pipe at file %d: State = %+v", file, s)
		}
	}
}

func TestPipeRefused(t *testing.T) {
	k := fresh(t, 4, 1, 2)
	run(t, k,
		step{call: api.Pipe, a: 0, b: 1, c: 3, err: api.ErrFile},
		step{call: api.Pipe, a: 0, b: 1, c: 1},
		step{call: api.Pipe, a: 0, b: 1, c: 1, err: api.ErrState},
		step{call: api.Pipe, a: 1, b: 1, c: 1, err: api.ErrFrame},
		step{call: api.Pipe, a: 1, b: 0, c: 3, err: api.ErrFrame},
		step{call: api.Pipe, a: 1, b: 2, c: 0, err: api.ErrFile},
		step{call: api.Pipe, a: 1, b: 2, c: 1, err: api.ErrFile},
		step{call: api.Pipe, a: 1, b: 2, c: 2, err: api.ErrFile},
		step{call: api.Pipe, a: 1, b: 2, c: 3, err: api.ErrFile},
		step{call: api.Close, a: 1},
		step{call: api.Pipe, a: 1, b: 2, c: 0},
	)
	none := fresh(t, 4, 1, 0)
	run(t, none, step{call: api.Pipe, a: 0, b: 1, c: 0, err: api.ErrNumber})
}

func TestDupIsTheSameEnd(t *testing.T) {
	k := fresh(t, 4, 1, 1)
	run(t, k,
		step{call: api.Dup, a: 0, b: 1, err: api.ErrFile},
		step{call: api.Pipe, a: 0, b: 1, c: 0},
		step{call: api.Dup, a: 2, b: 3, err: api.ErrFile},
		step{call: api.Dup, a: 0, b: 0, err: api.ErrFile},
		step{call: api.Dup, a: 0, b: 1, err: api.ErrFile},
		step{call: api.Dup, a: 0, b: 3},
		step{call: api.Dup, a: 1, b: 2},
		step{call: api.Map, a: 0, b: 2},
		step{call: api.Store, a: 0, b: 0, c: 6},
		step{call: api.Write, a: 2, b: 0, c: 0},
		step{call: api.Read, a: 3, b: 0, c: 1},
		step{call: api.Load, a: 0, b: 1, want: 6},
	)
	duct(t, k.State(), 0, api.Duct{Frame: 1, Head: 1, Readers: 2, Writers: 2})
	if f := k.State().Slots[0].Files; f[3] != (api.File{Pipe: 0}) || f[2] != (api.File{Pipe: 0, Writes: true}) {
		t.Errorf("the files are %+v", f)
	}
}

func TestCloseCountsDown(t *testing.T) {
	k := fresh(t, 3, 1, 1)
	run(t, k,
		step{call: api.Close, a: 0, err: api.ErrFile},
		step{call: api.Map, a: 0, b: 2},
		step{call: api.Store, a: 0, b: 0, c: 6},
		step{call: api.Pipe, a: 0, b: 1, c: 0},
		step{call: api.Dup, a: 0, b: 2},
		step{call: api.Dup, a: 1, b: 3},
		step{call: api.Write, a: 3, b: 0, c: 0},
		step{call: api.Close, a: 0},
		step{call: api.Close, a: 0, err: api.ErrFile},
	)
	duct(t, k.State(), 0, api.Duct{Frame: 1, Count: 1, Readers: 1, Writers: 2})
	run(t, k, step{call: api.Close, a: 1}, step{call: api.Close, a: 2})
	duct(t, k.State(), 0, api.Duct{Frame: 1, Count: 1, Writers: 1})
	run(t, k, step{call: api.Close, a: 3}, step{call: api.Unmap, a: 0})
	if s := k.State(); !sameState(s, firstState(api.Config{Frames: 3, Slots: 1, Pipes: 1})) {
		t.Errorf("State = %+v", s)
	}
}

func TestNewPipeKnowsNothingOfTheOldOne(t *testing.T) {
	k := fresh(t, 3, 1, 1)
	run(t, k,
		step{call: api.Map, a: 0, b: 2},
		step{call: api.Store, a: 0, b: 0, c: 6},
		step{call: api.Pipe, a: 0, b: 1, c: 0},
		step{call: api.Write, a: 1, b: 0, c: 0},
		step{call: api.Write, a: 1, b: 0, c: 0},
		step{call: api.Read, a: 0, b: 0, c: 0},
		step{call: api.Close, a: 1},
		step{call: api.Close, a: 0},
		step{call: api.Pipe, a: 0, b: 1, c: 2},
		step{call: api.Read, a: 2, b: 0, c: 0, err: api.ErrAgain},
	)
	duct(t, k.State(), 0, api.Duct{Frame: 1, Readers: 1, Writers: 1})
	if f := k.State().Frames[1]; f.Words != [4]int{} {
		t.Errorf("the ring has %v", f.Words)
	}
}

func TestWriteRefused(t *testing.T) {
	k := fresh(t, 4, 1, 1)
	run(t, k,
		step{call: api.Write, a: 0, b: 0, c: 0, err: api.ErrFile},
		step{call: api.Pipe, a: 0, b: 1, c: 0},
		step{call: api.Write, a: 0, b: 0, c: 0, err: api.ErrFile},
		step{call: api.Write, a: 1, b: 0, c: 0, err: api.ErrPage},
		step{call: api.Map, a: 0, b: 2},
		step{call: api.Protect, a: 0},
	)
	for range api.Words {
		run(t, k, step{call: api.Write, a: 1, b: 0, c: 0})
	}
	run(t, k,
		step{call: api.Write, a: 1, b: 0, c: 0, err: api.ErrAgain},
		step{call: api.Write, a: 1, b: 1, c: 0, err: api.ErrPage},
		step{call: api.Close, a: 0},
		step{call: api.Write, a: 1, b: 0, c: 0, err: api.ErrBroken},
		step{call: api.Write, a: 1, b: 1, c: 0, err: api.ErrPage},
	)
}

func TestReadRefused(t *testing.T) {
	k := fresh(t, 4, 1, 1)
	run(t, k,
		step{call: api.Read, a: 0, b: 0, c: 0, err: api.ErrFile},
		step{call: api.Pipe, a: 0, b: 1, c: 0},
		step{call: api.Read, a: 1, b: 0, c: 0, err: api.ErrFile},
		step{call: api.Read, a: 0, b: 0, c: 0, err: api.ErrPage},
		step{call: api.Map, a: 0, b: 2},
		step{call: api.Read, a: 0, b: 0, c: 0, err: api.ErrAgain},
		step{call: api.Write, a: 1, b: 0, c: 0},
		step{call: api.Protect, a: 0},
		step{call: api.Read, a: 0, b: 0, c: 0, err: api.ErrPage},
		step{call: api.Close, a: 1},
		step{call: api.Read, a: 0, b: 0, c: 0, err: api.ErrPage},
		step{call: api.Protect, a: 0, b: 1},
		step{call: api.Read, a: 0, b: 0, c: 0},
		step{call: api.Read, a: 0, b: 0, c: 0, err: api.ErrEnd},
	)
}

// A ring that is filled and emptied at every Head keeps the order, and what is gone stays in the frame.
func TestRingGoesRound(t *testing.T) {
	k := fresh(t, 4, 1, 1)
	run(t, k, step{call: api.Map, a: 0, b: 2}, step{call: api.Pipe, a: 0, b: 1, c: 0})
	head, next := 0, 1
	var ring [api.Words]int
	for round := range 3 * api.Words {
		many := round%api.Words + 1
		first := next
		for i := range many {
			run(t, k, step{call: api.Store, a: 0, b: 1, c: next}, step{call: api.Write, a: 1, b: 0, c: 1})
			ring[(head+i)%api.Words] = next
			next++
		}
		duct(t, k.State(), 0, api.Duct{Frame: 1, Head: head, Count: many, Readers: 1, Writers: 1})
		for i := range many {
			run(t, k, step{call: api.Read, a: 0, b: 0, c: 3}, step{call: api.Load, a: 0, b: 3, want: first + i})
		}
		head = (head + many) % api.Words
		duct(t, k.State(), 0, api.Duct{Frame: 1, Head: head, Readers: 1, Writers: 1})
		if f := k.State().Frames[1]; f.Words != ring {
			t.Fatalf("the ring is %v, want %v", f.Words, ring)
		}
	}
}

func TestWordsLeftAreReadWithoutAWriter(t *testing.T) {
	k := fresh(t, 3, 1, 1)
	run(t, k,
		step{call: api.Map, a: 2, b: 1},
		step{call: api.Store, a: 2, b: 0, c: 4},
		step{call: api.Pipe, a: 0, b: 2, c: 2},
		step{call: api.Write, a: 3, b: 2, c: 0},
		step{call: api.Close, a: 3},
		step{call: api.Read, a: 2, b: 2, c: 1},
		step{call: api.Load, a: 2, b: 1, want: 4},
		step{call: api.Read, a: 2, b: 2, c: 1, err: api.ErrEnd},
	)
}

func TestTwoPipesKeepApart(t *testing.T) {
	k := fresh(t, 4, 1, 2)
	run(t, k,
		step{call: api.Map, a: 0, b: 1},
		step{call: api.Store, a: 0, b: 0, c: 5},
		step{call: api.Store, a: 0, b: 1, c: 6},
		step{call: api.Pipe, a: 1, b: 2, c: 0},
		step{call: api.Pipe, a: 0, b: 3, c: 2},
		step{call: api.Write, a: 1, b: 0, c: 0},
		step{call: api.Read, a: 2, b: 0, c: 2, err: api.ErrAgain},
		step{call: api.Write, a: 3, b: 0, c: 1},
		step{call: api.Read, a: 0, b: 0, c: 2},
		step{call: api.Read, a: 2, b: 0, c: 3},
		step{call: api.Load, a: 0, b: 2, want: 5},
		step{call: api.Load, a: 0, b: 3, want: 6},
	)
}
