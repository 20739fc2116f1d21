package kernel_test

import (
	"slices"
	"testing"

	"burrow/api"
	"burrow/kernel"
)

// sceneConfig is what the scenes need.
func sceneConfig() api.Config { return api.Config{Frames: 14, Slots: 6, Pipes: 2} }

// made is a kernel in which a scene has been played.
func made(t *testing.T, scene []step) *kernel.Kernel {
	t.Helper()
	c := sceneConfig()
	k := fresh(t, c.Frames, c.Slots, c.Pipes)
	run(t, k, scene...)
	return k
}

// scenes are kernels in which the calls are tried: what was done ahead.
func scenes() [][]step {
	memory, pipe, full := memorySteps(), pipeSteps(), fullSteps()
	family := slices.Concat(memory, pipe, familySteps())
	return [][]step{
		nil,
		memory,
		slices.Concat(memory, pipe),
		slices.Concat(memory, pipe, full),
		slices.Concat(memory, pipe, full, []step{{call: api.Close, a: 1}}),
		slices.Concat(memory, pipe, []step{{call: api.Dup, a: 2, b: 0}, {call: api.Close, a: 2}}),
		slices.Concat(memory, pipe, []step{{call: api.Read, a: 1, b: 0, c: 0}, {call: api.Close, a: 2}}),
		family,
		slices.Concat(family, orphanSteps()),
		bareSteps(),
		endedSteps(),
	}
}

func memorySteps() []step {
	return []step{
		{call: api.Map, a: 0, b: 1},
		{call: api.Store, a: 0, b: 2, c: 7},
		{call: api.Map, a: 2, b: 2},
		{call: api.Store, a: 2, b: 1, c: 8},
		{call: api.Protect, a: 2},
	}
}

func pipeSteps() []step {
	return []step{
		{call: api.Pipe, a: 0, b: 3, c: 1},
		{call: api.Write, a: 2, b: 0, c: 2},
	}
}

func fullSteps() []step {
	return []step{
		{call: api.Write, a: 2, b: 0, c: 2},
		{call: api.Write, a: 2, b: 2, c: 1},
		{call: api.Write, a: 2, b: 0, c: 0},
	}
}

// familySteps: of the process 0, 1 is a Ready child, 2 an Embryo and 3 a Zombie, all with pages and files; 4 is an Embryo of 1.
func familySteps() []step {
	return []step{
		{call: api.Spawn, a: 1, b: 4},
		{call: api.Copy, a: 1, b: 0, c: 5},
		{call: api.Copy, a: 1, b: 2, c: 6},
		{call: api.Give, a: 1, b: 1, c: 1},
		{call: api.Give, a: 1, b: 2, c: 2},
		{call: api.Start, a: 1},
		{call: api.Spawn, a: 2, b: 7},
		{call: api.Copy, a: 2, b: 0, c: 8},
		{call: api.Give, a: 2, b: 2, c: 0},
		{call: api.Spawn, a: 3, b: 9},
		{call: api.Copy, a: 3, b: 2, c: 10},
		{call: api.Give, a: 3, b: 1, c: 3},
		{call: api.Start, a: 3},
		{by: 3, call: api.Exit, a: -5},
		{by: 1, call: api.Spawn, a: 4, b: 11},
	}
}

// orphanSteps: behind the family, 1 has ended; 4 is Ready, the process 0's now, and has an Embryo of its own.
func orphanSteps() []step {
	return []step{
		{by: 1, call: api.Copy, a: 4, b: 0, c: 12},
		{by: 1, call: api.Give, a: 4, b: 1, c: 0},
		{by: 1, call: api.Start, a: 4},
		{by: 4, call: api.Spawn, a: 5, b: 13},
		{by: 1, call: api.Exit, a: 6},
	}
}

// bareSteps: children that have nothing, just a page, or just a file, which is the pipe's last one.
func bareSteps() []step {
	return []step{
		{call: api.Spawn, a: 1, b: 1},
		{call: api.Spawn, a: 2, b: 2},
		{call: api.Start, a: 2},
		{by: 2, call: api.Exit, a: 9},
		{call: api.Map, a: 0, b: 3},
		{call: api.Spawn, a: 3, b: 4},
		{call: api.Copy, a: 3, b: 0, c: 5},
		{call: api.Pipe, a: 1, b: 6, c: 0},
		{call: api.Spawn, a: 4, b: 7},
		{call: api.Give, a: 4, b: 1, c: 0},
		{call: api.Close, a: 0},
		{call: api.Close, a: 1},
		{call: api.Spawn, a: 5, b: 8},
		{call: api.Start, a: 5},
	}
}

// endedSteps: 1 had an Embryo, a Ready child and a Zombie when it ended; the only writer is a Zombie's.
func endedSteps() []step {
	return []step{
		{call: api.Map, a: 1, b: 1},
		{call: api.Pipe, a: 0, b: 2, c: 0},
		{call: api.Spawn, a: 1, b: 3},
		{call: api.Give, a: 1, b: 1, c: 1},
		{call: api.Start, a: 1},
		{call: api.Close, a: 1},
		{by: 1, call: api.Spawn, a: 2, b: 4},
		{by: 1, call: api.Spawn, a: 3, b: 5},
		{by: 1, call: api.Start, a: 3},
		{by: 1, call: api.Spawn, a: 4, b: 6},
		{by: 1, call: api.Start, a: 4},
		{by: 4, call: api.Exit, a: 8},
		{by: 1, call: api.Exit, a: -7},
	}
}

// attempt does a call, and holds all that comes of it against the rules and the outcome: the answer is what the first rule that applies says; a refused call changes nothing, one that is done what it must and nothing else.
func attempt(t *testing.T, k *kernel.Kernel, all map[int][]rule, by, call int, args [3]int) api.Errno {
	t.Helper()
	d := deed{k.State(), by, args[0], args[1], args[2]}
	n, err := k.Call(by, call, args)
	want, answer, left := refusal(all, call, d), 0, d.s
	if want == api.OK {
		answer, left = outcome(call, d)
	}
	if err != want || n != answer {
		t.Fatalf("Call(%d, %d, %v) = %d, %d, want %d, %d; ahead of it: %+v", by, call, args, n, err, answer, want, d.s)
	}
	after := k.State()
	if !sameState(after, left) {
		t.Fatalf("Call(%d, %d, %v) = %d, %d made of %+v: %+v, want %+v", by, call, args, n, err, d.s, after, left)
	}
	if err == api.OK {
		checkBooks(t, after)
		checkApart(t, d.s, after, by)
	}
	return err
}

// checkApart: what a process has is changed by nobody else, but an Embryo's and a Zombie's by its parent (P13).
func checkApart(t *testing.T, before, after api.State, by int) {
	t.Helper()
	for i, was := range before.Slots {
		still := was.Kind == api.Embryo || was.Kind == api.Zombie
		if i == by || was.Kind == api.None || still && was.Parent == by {
			continue
		}
		is := after.Slots[i]
		if is.Kind != was.Kind || is.Table != was.Table || is.Pages != was.Pages || is.Files != was.Files || is.Code != was.Code {
			t.Fatalf("the process %d made of the process %d, %+v: %+v", by, i, was, is)
		}
		for _, e := range was.Pages {
			if e.Frame != -1 && after.Frames[e.Frame] != before.Frames[e.Frame] {
				t.Fatalf("the process %d has changed the words of the process %d", by, i)
			}
		}
	}
}

// Every call of every process at all numbers: none panics, each is refused by the first error that applies, a refused one changes nothing, and arguments that a call does not use do not matter (P1, P4).
func TestEveryCallAtAllNumbers(t *testing.T) {
	all := rules()
	edges := append(farNumbers(), 0, 1, 2, 3, 4, 5, 6, 13, 14)
	for _, scene := range scenes() {
		k := made(t, scene)
		before := k.State()
		for by, caller := range before.Slots {
			if caller.Kind != api.Ready {
				continue
			}
			for call := api.Yield; call <= api.Store; call++ {
				for i := range len(edges) * len(edges) * len(edges) {
					args := [3]int{edges[i/len(edges)/len(edges)], edges[i/len(edges)%len(edges)], edges[i%len(edges)]}
					if attempt(t, k, all, by, call, args) == api.OK && !sameState(k.State(), before) {
						k = made(t, scene)
					}
				}
			}
		}
	}
}

// Calls that are none, and callers that are none, or are not Ready (P4).
func TestNoCallAndNoCaller(t *testing.T) {
	all := rules()
	callNumbers := append(farNumbers(), -2, 0, api.Store+1, api.Store+2)
	for call := api.Yield; call <= api.Store; call++ {
		callNumbers = append(callNumbers, call)
	}
	for _, scene := range scenes() {
		k := made(t, scene)
		for by := -2; by <= len(k.State().Slots)+1; by++ {
			for _, call := range callNumbers {
				for _, n := range append(farNumbers(), 0, 1, 2, 5) {
					args := [3]int{n, n, n}
					if attempt(t, k, all, by, call, args) == api.OK {
						k = made(t, scene)
					}
				}
			}
		}
		for _, by := range farNumbers() {
			for _, call := range callNumbers {
				attempt(t, k, all, by, call, [3]int{})
			}
		}
	}
}

// scribble writes into a list, its spare room too.
func scribble[T any](list []T, value T) {
	list = list[:cap(list)]
	for i := range list {
		list[i] = value
	}
}

func scribbleAll(s api.State) {
	scribble(s.Frames, api.Frame{Kind: 77, Owner: 77, Words: [4]int{77, 77, 77, 77}})
	scribble(s.Slots, api.Slot{Kind: 77})
	scribble(s.Ducts, api.Duct{Frame: 77, Head: 77})
}

func TestStateIsNewMemory(t *testing.T) {
	for _, scene := range scenes() {
		k := made(t, scene)
		want := made(t, scene).State()
		first, second := k.State(), k.State()
		scribbleAll(first)
		if !sameState(second, want) || !sameState(k.State(), want) {
			t.Errorf("one State was written into; another one is %+v, the kernel's %+v", second, k.State())
		}
		told := k.State()
		for call := api.Yield; call <= api.Store; call++ {
			for n := range 4 {
				k.Call(0, call, [3]int{n, n, n})
			}
		}
		if !sameState(told, want) {
			t.Errorf("what was told is %+v after calls, was %+v", told, want)
		}
	}
}

func TestKernelsKnowNothingOfOneAnother(t *testing.T) {
	want := firstState(sceneConfig())
	idle := made(t, nil)
	for _, scene := range scenes() {
		one, two := made(t, nil), made(t, nil)
		for _, s := range scene {
			run(t, one, s)
			run(t, two, s)
		}
		alone := made(t, scene).State()
		if !sameState(one.State(), alone) || !sameState(two.State(), alone) {
			t.Errorf("two kernels in turn are %+v and %+v, one alone %+v", one.State(), two.State(), alone)
		}
		if !sameState(idle.State(), want) || !sameState(made(t, nil).State(), want) {
			t.Fatalf("a kernel that nobody called is %+v", idle.State())
		}
	}
}
