package kernel_test

import (
	"math"
	"reflect"
	"testing"

	"burrow/api"
	"burrow/kernel"
)

// rule is an error, and when a call of the process 0 has it.
type rule struct {
	err  api.Errno
	when func(s api.State, a, b, c int) bool
}

func isNone(number, many int) bool       { return number < 0 || number >= many }
func page(s api.State, n int) api.Entry  { return s.Slots[0].Pages[n] }
func file(s api.State, n int) api.File   { return s.Slots[0].Files[n] }
func ductOf(s api.State, n int) api.Duct { return s.Ducts[file(s, n).Pipe] }

func noPage(s api.State, a, b, c int) bool     { return page(s, a).Frame == -1 }
func frameTaken(s api.State, a, b, c int) bool { return s.Frames[b].Kind != api.Free }

// numbers is the rule that comes ahead of the call's own: how many there are of what each argument numbers.
func numbers(many ...func(s api.State) int) rule {
	return rule{api.ErrNumber, func(s api.State, a, b, c int) bool {
		args := [3]int{a, b, c}
		for i, m := range many {
			if isNone(args[i], m(s)) {
				return true
			}
		}
		return false
	}}
}

func frames(s api.State) int { return len(s.Frames) }
func pipes(s api.State) int  { return len(s.Ducts) }
func four(s api.State) int   { return 4 }

// rules tells of each call that there is its errors behind ErrCaller, in the document's order.
func rules() map[int][]rule {
	return map[int][]rule{
		api.Yield: nil,
		api.Map: {numbers(four, frames),
			{api.ErrPage, func(s api.State, a, b, c int) bool { return page(s, a).Frame != -1 }},
			{api.ErrFrame, frameTaken}},
		api.Unmap:   {numbers(four), {api.ErrPage, noPage}},
		api.Protect: {numbers(four), {api.ErrPage, noPage}},
		api.Load:    {numbers(four, four), {api.ErrPage, noPage}},
		api.Store: {numbers(four, four), {api.ErrPage, func(s api.State, a, b, c int) bool {
			return page(s, a).Frame == -1 || !page(s, a).Writes
		}}},
		api.Pipe: {numbers(pipes, frames, four),
			{api.ErrState, func(s api.State, a, b, c int) bool { return s.Ducts[a].Frame != -1 }},
			{api.ErrFrame, frameTaken},
			{api.ErrFile, func(s api.State, a, b, c int) bool {
				return file(s, c).Pipe != -1 || c == 3 || file(s, c+1).Pipe != -1
			}}},
		api.Dup: {numbers(four, four),
			{api.ErrFile, func(s api.State, a, b, c int) bool { return file(s, a).Pipe == -1 || file(s, b).Pipe != -1 }}},
		api.Close: {numbers(four),
			{api.ErrFile, func(s api.State, a, b, c int) bool { return file(s, a).Pipe == -1 }}},
		api.Write: {numbers(four, four, four),
			{api.ErrFile, func(s api.State, a, b, c int) bool { return file(s, a).Pipe == -1 || !file(s, a).Writes }},
			{api.ErrPage, func(s api.State, a, b, c int) bool { return page(s, b).Frame == -1 }},
			{api.ErrBroken, func(s api.State, a, b, c int) bool { return ductOf(s, a).Readers == 0 }},
			{api.ErrAgain, func(s api.State, a, b, c int) bool { return ductOf(s, a).Count == 4 }}},
		api.Read: {numbers(four, four, four),
			{api.ErrFile, func(s api.State, a, b, c int) bool { return file(s, a).Pipe == -1 || file(s, a).Writes }},
			{api.ErrPage, func(s api.State, a, b, c int) bool { return page(s, b).Frame == -1 || !page(s, b).Writes }},
			{api.ErrEnd, func(s api.State, a, b, c int) bool { return ductOf(s, a).Count == 0 && ductOf(s, a).Writers == 0 }},
			{api.ErrAgain, func(s api.State, a, b, c int) bool { return ductOf(s, a).Count == 0 }}},
	}
}

// refusal is the first error of a call of the process 0.
func refusal(rs []rule, s api.State, args [3]int) api.Errno {
	for _, r := range rs {
		if r.when(s, args[0], args[1], args[2]) {
			return r.err
		}
	}
	return api.OK
}

// expected is the first error of any call at all, of a kernel with the process 0 alone; asked is false where nothing is known of the call yet.
func expected(all map[int][]rule, s api.State, slot, call int, args [3]int) (err api.Errno, asked bool) {
	if call < api.Yield || call > api.Store {
		return api.ErrCall, true
	}
	rs, known := all[call]
	if !known {
		return api.OK, false
	}
	if slot != 0 {
		return api.ErrCaller, true
	}
	return refusal(rs, s, args), true
}

// scenes are kernels in which the calls are tried: what was done ahead, of the process 0.
func scenes() [][]step {
	memory := []step{
		{call: api.Map, a: 0, b: 1},
		{call: api.Store, a: 0, b: 2, c: 7},
		{call: api.Map, a: 2, b: 2},
		{call: api.Store, a: 2, b: 1, c: 8},
		{call: api.Protect, a: 2},
	}
	pipe := []step{
		{call: api.Pipe, a: 0, b: 3, c: 1},
		{call: api.Write, a: 2, b: 0, c: 2},
	}
	full := []step{
		{call: api.Write, a: 2, b: 0, c: 2},
		{call: api.Write, a: 2, b: 2, c: 1},
		{call: api.Write, a: 2, b: 0, c: 0},
	}
	join := func(parts ...[]step) []step {
		var all []step
		for _, p := range parts {
			all = append(all, p...)
		}
		return all
	}
	return [][]step{
		nil,
		memory,
		join(memory, pipe),
		join(memory, pipe, full),
		join(memory, pipe, full, []step{{call: api.Close, a: 1}}),
		join(memory, pipe, []step{{call: api.Dup, a: 2, b: 0}, {call: api.Close, a: 2}}),
		join(memory, pipe, []step{{call: api.Read, a: 1, b: 0, c: 0}, {call: api.Close, a: 2}}),
	}
}

// Every call at all numbers: none panics, each is refused by the first error that applies, and a refused one changes nothing (P1).
func TestEveryCallAtAllNumbers(t *testing.T) {
	all := rules()
	edges := append(farNumbers(), 0, 1, 2, 3, 4, 5)
	callNumbers := append(farNumbers(), 0, api.Store+1, api.Store+2)
	for call := api.Yield; call <= api.Store; call++ {
		callNumbers = append(callNumbers, call)
	}
	for _, scene := range scenes() {
		k := fresh(t, 5, 2, 2)
		run(t, k, scene...)
		before := k.State()
		for _, call := range callNumbers {
			for _, slot := range append(farNumbers(), 0, 1, 2) {
				for i := range len(edges) * len(edges) * len(edges) {
					args := [3]int{edges[i/len(edges)/len(edges)], edges[i/len(edges)%len(edges)], edges[i%len(edges)]}
					n, err := k.Call(slot, call, args)
					if want, asked := expected(all, before, slot, call, args); asked && err != want {
						t.Fatalf("Call(%d, %d, %v) = %d, %d, want the error %d; ahead of it: %+v", slot, call, args, n, err, want, before)
					}
					after := k.State()
					if err != api.OK {
						if n != 0 || !reflect.DeepEqual(before, after) {
							t.Fatalf("Call(%d, %d, %v) = %d, %d; ahead of it: %+v, behind it: %+v", slot, call, args, n, err, before, after)
						}
						continue
					}
					checkBooks(t, after)
					if n != 0 && call != api.Load && call != api.Reap {
						t.Fatalf("Call(%d, %d, %v) = %d", slot, call, args, n)
					}
					k = fresh(t, 5, 2, 2)
					run(t, k, scene...)
				}
			}
		}
	}
}

// Arguments that a call does not use do not matter (P4).
func TestUnusedArguments(t *testing.T) {
	for call, used := range map[int]int{api.Yield: 0, api.Map: 2, api.Unmap: 1, api.Protect: 2, api.Load: 2, api.Dup: 2, api.Close: 1} {
		for _, scene := range scenes() {
			for _, far := range farNumbers() {
				plain, odd := fresh(t, 5, 2, 2), fresh(t, 5, 2, 2)
				run(t, plain, scene...)
				run(t, odd, scene...)
				args := [3]int{2, 3, 0}
				n, err := plain.Call(0, call, args)
				for i := used; i < len(args); i++ {
					args[i] = far
				}
				if m, e := odd.Call(0, call, args); m != n || e != err || !reflect.DeepEqual(plain.State(), odd.State()) {
					t.Errorf("Call(0, %d, %v) = %d, %d, want %d, %d", call, args, m, e, n, err)
				}
			}
		}
	}
}

// scribble writes into a list, its spare room too.
func scribble[T any](list []T, value T) {
	list = list[:cap(list)]
	for i := range list {
		list[i] = value
	}
}

func scribbleAll(s api.State) {
	scribble(s.Frames, api.Frame{Kind: 77, Owner: 77, Words: [4]int{77, 77, 77, 77}})
	scribble(s.Slots, api.Slot{Kind: 77})
	scribble(s.Ducts, api.Duct{Frame: 77, Head: 77})
}

func TestStateIsNewMemory(t *testing.T) {
	for _, scene := range scenes() {
		k, other := fresh(t, 5, 2, 2), fresh(t, 5, 2, 2)
		run(t, k, scene...)
		run(t, other, scene...)
		want := other.State()
		first, second := k.State(), k.State()
		scribbleAll(first)
		if !reflect.DeepEqual(second, want) || !reflect.DeepEqual(k.State(), want) {
			t.Errorf("one State was written into; another one is %+v, the kernel's %+v", second, k.State())
		}
		told := k.State()
		run(t, k, step{call: api.Map, a: 1, b: 4}, step{call: api.Store, a: 1, c: 3})
		if !reflect.DeepEqual(told, want) {
			t.Errorf("what was told is %+v after a call, was %+v", told, want)
		}
	}
}

func TestKernelsKnowNothingOfOneAnother(t *testing.T) {
	busy, idle := fresh(t, 5, 2, 2), fresh(t, 5, 2, 2)
	for _, scene := range scenes() {
		for _, s := range scene {
			busy.Call(0, s.call, [3]int{s.a, s.b, s.c})
		}
		want := firstState(api.Config{Frames: 5, Slots: 2, Pipes: 2})
		if !sameState(idle.State(), want) || !sameState(fresh(t, 5, 2, 2).State(), want) {
			t.Fatalf("a kernel that nobody called is %+v", idle.State())
		}
	}
	for _, scene := range scenes() {
		one, two, alone := fresh(t, 5, 2, 2), fresh(t, 5, 2, 2), fresh(t, 5, 2, 2)
		run(t, alone, scene...)
		for _, s := range scene {
			run(t, one, s)
			run(t, two, s)
		}
		if !reflect.DeepEqual(one.State(), alone.State()) || !reflect.DeepEqual(two.State(), alone.State()) {
			t.Errorf("two kernels in turn are %+v and %+v, one alone %+v", one.State(), two.State(), alone.State())
		}
	}
}

// dice tells numbers that look at random, the same ones each time.
type dice uint64

func (d *dice) below(n int) int {
	*d = *d*6364136223846793005 + 1442695040888963407
	return int(uint64(*d) >> 33 % uint64(n))
}

// walkCalls has the calls that use what others made more often than those that take it away, so that pipes live long enough to go round.
func walkCalls() []int {
	var often []int
	for range 4 {
		often = append(often, api.Map, api.Protect, api.Pipe, api.Store)
	}
	for range 12 {
		often = append(often, api.Write, api.Read)
	}
	return append(often, api.Yield, api.Unmap, api.Load, api.Dup, api.Close)
}

// A long walk: whatever is called, the books are right, the first error that applies is the answer, and words come out of a pipe as they went in (P13).
func TestLongWalk(t *testing.T) {
	all := rules()
	often := walkCalls()
	for seed := range 20 {
		d := dice(seed + 1)
		k := fresh(t, 6, 1, 3)
		queues := make([][]int, 3)
		done := map[int]int{}
		for range 5000 {
			call := often[d.below(len(often))]
			args := [3]int{d.below(5), d.below(5), d.below(5)}
			if call == api.Store {
				args[2] = d.below(math.MaxInt32) + 1
			}
			if walk(t, k, all, queues, call, args) {
				done[call]++
			}
		}
		for call := range all {
			if done[call] == 0 {
				t.Errorf("walk %d: the call %d was never done", seed, call)
			}
		}
	}
}

// walk does one call, and says whether it was done.
func walk(t *testing.T, k *kernel.Kernel, all map[int][]rule, queues [][]int, call int, args [3]int) bool {
	t.Helper()
	before := k.State()
	n, err := k.Call(0, call, args)
	if want := refusal(all[call], before, args); err != want {
		t.Fatalf("Call(0, %d, %v) = %d, %d, want the error %d; ahead of it: %+v", call, args, n, err, want, before)
	}
	after := k.State()
	checkBooks(t, after)
	if err != api.OK {
		if !reflect.DeepEqual(before, after) {
			t.Fatalf("Call(0, %d, %v) = %d, and has changed something", call, args, err)
		}
		return false
	}
	follow(t, before, after, queues, call, args)
	return true
}

// follow keeps what is in the pipes by the calls that were done, and holds what is read against it.
func follow(t *testing.T, before, after api.State, queues [][]int, call int, args [3]int) {
	t.Helper()
	word := func(s api.State) int { return s.Frames[page(s, args[1]).Frame].Words[args[2]] }
	switch call {
	case api.Pipe:
		queues[args[0]] = nil
	case api.Write:
		p := file(before, args[0]).Pipe
		queues[p] = append(queues[p], word(before))
	case api.Read:
		p := file(before, args[0]).Pipe
		if word(after) != queues[p][0] {
			t.Fatalf("read of pipe %d: %d, in it was %v", p, word(after), queues[p])
		}
		queues[p] = queues[p][1:]
	}
	for i, d := range after.Ducts {
		if d.Frame != -1 && d.Count != len(queues[i]) {
			t.Fatalf("pipe %d is %+v, in it is %v", i, d, queues[i])
		}
	}
}
