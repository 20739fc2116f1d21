package kernel_test

import (
	"math"
	"testing"

	"burrow/api"
	"burrow/kernel"
)

func TestNewRefusesSettingsThatAreNone(t *testing.T) {
	good := api.Config{Frames: 2, Slots: 1, Pipes: 0}
	try := func(c api.Config) {
		t.Helper()
		if k, err := kernel.New(c); k != nil || err != api.ErrConfig {
			t.Errorf("New(%+v) = %v, %d", c, k, err)
		}
	}
	for _, n := range []int{math.MinInt, -1, 0, 1, api.MaxFrames + 1, math.MaxInt} {
		c := good
		c.Frames = n
		try(c)
	}
	for _, n := range []int{math.MinInt, -1, 0, api.MaxSlots + 1, math.MaxInt} {
		c := good
		c.Slots = n
		try(c)
	}
	for _, n := range []int{math.MinInt, -1, api.MaxPipes + 1, math.MaxInt} {
		c := good
		c.Pipes = n
		try(c)
	}
}

func TestNewMakesTheProcess0Alone(t *testing.T) {
	for frames := 2; frames <= api.MaxFrames; frames++ {
		for slots := 1; slots <= api.MaxSlots; slots++ {
			for pipes := 0; pipes <= api.MaxPipes; pipes++ {
				c := api.Config{Frames: frames, Slots: slots, Pipes: pipes}
				s := fresh(t, frames, slots, pipes).State()
				if !sameState(s, firstState(c)) {
					t.Fatalf("New(%+v): State = %+v", c, s)
				}
			}
		}
	}
}

func TestStateTellsAll(t *testing.T) {
	k := fresh(t, 5, 2, 2)
	run(t, k,
		step{call: api.Map, a: 1, b: 2},
		step{call: api.Store, a: 1, b: 3, c: 9},
		step{call: api.Map, a: 3, b: 4},
		step{call: api.Protect, a: 3},
		step{call: api.Pipe, a: 1, b: 3, c: 1},
		step{call: api.Write, a: 2, b: 1, c: 3},
		step{call: api.Write, a: 2, b: 1, c: 0},
		step{call: api.Read, a: 1, b: 1, c: 2},
		step{call: api.Dup, a: 2, b: 0},
	)
	want := firstState(api.Config{Frames: 5, Slots: 2, Pipes: 2})
	want.Frames[2] = api.Frame{Kind: api.Data, Words: [4]int{0, 0, 9, 9}}
	want.Frames[3] = api.Frame{Kind: api.Ring, Owner: -1, Words: [4]int{9, 0, 0, 0}}
	want.Frames[4] = api.Frame{Kind: api.Data}
	want.Slots[0].Pages[1] = api.Entry{Frame: 2, Writes: true}
	want.Slots[0].Pages[3] = api.Entry{Frame: 4}
	want.Slots[0].Files = [4]api.File{{Pipe: 1, Writes: true}, {Pipe: 1}, {Pipe: 1, Writes: true}, {Pipe: -1}}
	want.Ducts[1] = api.Duct{Frame: 3, Head: 1, Count: 1, Readers: 1, Writers: 2}
	if s := k.State(); !sameState(s, want) {
		t.Errorf("State = %+v, want %+v", s, want)
	}
}
