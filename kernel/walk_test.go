package kernel_test

import (
	"math"
	"testing"

	"burrow/api"
	"burrow/kernel"
)

// dice tells numbers that look at random, the same ones each time.
type dice uint64

func (d *dice) below(n int) int {
	*d = *d*6364136223846793005 + 1442695040888963407
	return int(uint64(*d) >> 33 % uint64(n))
}

// walkCalls has the calls that use what others made more often than those that take it away, so that processes and pipes live for a while.
func walkCalls() []int {
	var often []int
	for range 3 {
		often = append(often, api.Map, api.Protect, api.Pipe, api.Spawn, api.Start, api.Drop, api.Shut, api.Reap)
	}
	for range 10 {
		often = append(often, api.Store, api.Copy, api.Give, api.Write, api.Read)
	}
	return append(often, api.Yield, api.Unmap, api.Load, api.Dup, api.Close, api.Exit)
}

// walkDeed draws a caller and arguments, mostly until the call is not refused: few of all numbers are of use.
func walkDeed(d *dice, all map[int][]rule, call int, s api.State) deed {
	tries := 1
	if d.below(4) > 0 {
		tries = 300
	}
	var drawn deed
	for range tries {
		drawn = deed{s, d.below(len(s.Slots) + 1), d.below(6), d.below(len(s.Frames) + 1), d.below(len(s.Frames) + 1)}
		if d.below(2) == 0 {
			drawn.b %= 5
		}
		if d.below(2) == 0 {
			drawn.c %= 5
		}
		if call == api.Store {
			drawn.c = d.below(math.MaxInt32) + 1
		}
		if refusal(all, call, drawn) == api.OK {
			break
		}
	}
	return drawn
}

// Long walks of one process and of several: whatever is called, the books are right, and words come out of a pipe as they went in (P13).
func TestLongWalk(t *testing.T) {
	for seed := range 12 {
		done := walk(t, dice(seed+1), api.Config{Frames: 6, Slots: 1, Pipes: 3})
		for _, call := range []int{api.Map, api.Unmap, api.Store, api.Load, api.Pipe, api.Dup, api.Close, api.Write, api.Read} {
			if done[call] < 5 {
				t.Errorf("walk %d of one process: the call %d was done %d times", seed, call, done[call])
			}
		}
		done = walk(t, dice(seed+1), api.Config{Frames: 16, Slots: 5, Pipes: 2})
		for call := api.Yield; call <= api.Store; call++ {
			if done[call] < 5 {
				t.Errorf("walk %d of several processes: the call %d was done %d times", seed, call, done[call])
			}
		}
	}
}

// walk does many calls, and tells how many of each were done.
func walk(t *testing.T, d dice, c api.Config) map[int]int {
	t.Helper()
	all, often := rules(), walkCalls()
	k := fresh(t, c.Frames, c.Slots, c.Pipes)
	queues := make([][]int, c.Pipes)
	done := map[int]int{}
	for range 5000 {
		call := often[d.below(len(often))]
		drawn := walkDeed(&d, all, call, k.State())
		if attempt(t, k, all, drawn.by, call, [3]int{drawn.a, drawn.b, drawn.c}) == api.OK {
			done[call]++
			follow(t, k, queues, call, drawn)
		}
	}
	return done
}

// follow keeps what is in the pipes by the calls that were done, and holds what is read against it.
func follow(t *testing.T, k *kernel.Kernel, queues [][]int, call int, d deed) {
	t.Helper()
	after := k.State()
	switch call {
	case api.Pipe:
		queues[d.a] = nil
	case api.Write:
		p := d.file(d.a).Pipe
		queues[p] = append(queues[p], d.s.Frames[d.page(d.b).Frame].Words[d.c])
	case api.Read:
		p := d.file(d.a).Pipe
		if word := after.Frames[d.page(d.b).Frame].Words[d.c]; word != queues[p][0] {
			t.Fatalf("read of pipe %d: %d, in it was %v", p, word, queues[p])
		}
		queues[p] = queues[p][1:]
	}
	for i, duct := range after.Ducts {
		if duct.Frame != -1 && duct.Count != len(queues[i]) {
			t.Fatalf("pipe %d is %+v, in it is %v", i, duct, queues[i])
		}
	}
}
