package lib_test

import (
	"math"
	"slices"
	"testing"

	"burrow/api"
	"burrow/lib"
)

// newParent is a world of one process, which has the pages 0 (its word 2 is 7) and 2 (not to be written), and the files 1 and 2, both ends of pipe 0; the frames from 4 on are Free.
func newParent(t *testing.T, frames, slots int) *world {
	t.Helper()
	w := newWorld(t, frames, slots, 2)
	w.ok(0, api.Map, 0, 1)
	w.ok(0, api.Store, 0, 2, 7)
	w.ok(0, api.Map, 2, 2)
	w.ok(0, api.Protect, 2, 0)
	w.ok(0, api.Pipe, 0, 3, 1)
	return w
}

// newFamily: of that process 1 is a Ready child with the same pages and files, 2 an Embryo, 3 a Zombie with the same and the Code -5; 4 and 5 are None, and the frames from 11 on are Free.
func newFamily(t *testing.T, frames int) *world {
	t.Helper()
	w := newParent(t, frames, 6)
	w.does(0, api.Fork, 0, 0, 6, 1, api.OK)
	w.ok(0, api.Spawn, 2, 7)
	w.does(0, api.Fork, 0, 0, 6, 3, api.OK)
	w.does(3, api.Quit, -5, 0, 1, 0, api.OK)
	return w
}

func TestBeginRefuses(t *testing.T) {
	w := newFamily(t, 24)
	before := w.k.State()
	wrongKinds := []int{math.MinInt, -1, 0, api.Grow + 1, math.MaxInt}
	wrongSlots := append(farNumbers(), 6, 7)
	for _, slot := range append(wrongSlots, 0, 1) {
		for _, kind := range wrongKinds {
			if err := w.l.Begin(slot, api.Op{Kind: kind}); err != api.ErrCall {
				t.Errorf("Begin(%d, kind %d) = %d", slot, kind, err)
			}
		}
	}
	for _, slot := range wrongSlots {
		for _, kind := range kinds() {
			if err := w.l.Begin(slot, api.Op{Kind: kind}); err != api.ErrCaller {
				t.Errorf("Begin(%d, kind %d) = %d", slot, kind, err)
			}
		}
	}
	for slot := range 6 {
		if over, err := w.l.Pick(slot); over || err != api.ErrAgain {
			t.Errorf("Pick(%d), where Begin was refused, = %v, %d", slot, over, err)
		}
	}
	w.look(before, 0)
	if !sameState(before, w.k.State()) {
		t.Errorf("what was refused has changed the kernel")
	}
}

// What is under way stays as it was begun, whatever is refused beside it.
func TestBusy(t *testing.T) {
	w := newFamily(t, 24)
	for slot := range 6 {
		w.begin(slot, api.Grow, 1, 0)
	}
	for slot := range 6 {
		for _, kind := range kinds() {
			if err := w.l.Begin(slot, api.Op{Kind: kind, A: 3, B: 3}); err != api.ErrBusy {
				t.Errorf("Begin(%d, kind %d) = %d", slot, kind, err)
			}
		}
		if err := w.l.Begin(slot, api.Op{}); err != api.ErrCall {
			t.Errorf("Begin(%d) of no kind, where something is under way = %d", slot, err)
		}
	}
	if err := w.l.Begin(6, api.Op{Kind: api.Grow}); err != api.ErrCaller {
		t.Errorf("Begin(6) = %d", err)
	}
	for slot := range 2 {
		w.ends(slot, 1, 0, api.OK)
		w.does(slot, api.Grow, 1, 0, 1, 0, api.ErrPage)
	}
	for slot := 2; slot < 6; slot++ {
		w.ends(slot, 1, 0, api.ErrCaller)
		w.does(slot, api.Grow, 1, 0, 1, 0, api.ErrCaller)
	}
}

func TestPickAndDoneRefuse(t *testing.T) {
	w := newFamily(t, 24)
	for _, slot := range append(farNumbers(), 6, 7) {
		if over, err := w.l.Pick(slot); over || err != api.ErrCaller {
			t.Errorf("Pick(%d) = %v, %d", slot, over, err)
		}
		if told, err := w.l.Done(slot); told != nil || err != api.ErrCaller {
			t.Errorf("Done(%d) = %v, %d", slot, told, err)
		}
	}
	for slot := range 6 {
		if over, err := w.l.Pick(slot); over || err != api.ErrAgain {
			t.Errorf("Pick(%d) of nothing = %v, %d", slot, over, err)
		}
	}
	w.does(0, api.Grow, 1, 0, 1, 0, api.OK)
	if over, err := w.l.Pick(0); over || err != api.ErrAgain {
		t.Errorf("Pick(0) behind the end = %v, %d", over, err)
	}
}

// Who is not Ready may begin, and has ended with its first call, also where that is Yield.
func TestWhoMayNotCall(t *testing.T) {
	w := newFamily(t, 24)
	before := w.k.State()
	for slot := 2; slot < 6; slot++ {
		for _, kind := range kinds() {
			w.does(slot, kind, 1, 1, 1, 0, api.ErrCaller)
		}
	}
	if !sameState(before, w.k.State()) {
		t.Errorf("who may not call has changed the kernel")
	}
	full := newWorld(t, 2, 2, 0)
	full.ok(0, api.Map, 0, 1)
	full.does(1, api.Grow, 0, 0, 1, 0, api.ErrCaller)
	full.does(1, api.Fork, 0, 0, 1, 0, api.ErrCaller)
}

// Who was no process when it began may be one when it is picked.
func TestReadyAheadOfThePick(t *testing.T) {
	w := newParent(t, 12, 2)
	w.begin(1, api.Grow, 3, 0)
	w.ok(0, api.Spawn, 1, 4)
	w.ok(0, api.Start, 1)
	w.ends(1, 1, 0, api.OK)
	if w.frameOf(1, 3) != 5 {
		t.Errorf("the page has frame %d", w.frameOf(1, 3))
	}
}

// scene is an operation of the process 1 of a family: what is done ahead of it, and behind its first pick.
type scene struct {
	name             string
	frames, picks    int // how many picks it has; 15: it goes on
	op               api.Op
	ahead, meanwhile func(w *world)
}

func scenes() []scene {
	nothing := func(w *world) {}
	fill := func(w *world) {
		for range api.Words {
			w.ok(1, api.Write, 2, 0, 2)
		}
	}
	return []scene{
		{"Fork", 24, 6, api.Op{Kind: api.Fork}, nothing, nothing},
		{"Fork, page gone", 24, 5, api.Op{Kind: api.Fork}, nothing, func(w *world) { w.ok(1, api.Unmap, 2) }},
		{"Fork, file gone", 24, 9, api.Op{Kind: api.Fork}, nothing, func(w *world) { w.ok(1, api.Close, 2) }},
		{"Fork, frames gone", 14, 6, api.Op{Kind: api.Fork}, nothing, func(w *world) { w.ok(0, api.Map, 3, 12) }},
		{"Wait for nobody", 24, 1, api.Op{Kind: api.Wait}, nothing, nothing},
		{"Wait", 24, 5, api.Op{Kind: api.Wait}, func(w *world) {
			w.does(1, api.Fork, 0, 0, 6, 4, api.OK)
			w.does(4, api.Quit, 3, 0, 1, 0, api.OK)
		}, nothing},
		{"MakePipe", 24, 1, api.Op{Kind: api.MakePipe, A: 1, B: 0}, func(w *world) { w.ok(1, api.Close, 1) }, nothing},
		{"Put", 24, 1, api.Op{Kind: api.Put, A: 2, B: 2}, nothing, nothing},
		{"Put, full", 24, 15, api.Op{Kind: api.Put, A: 2, B: 2}, fill, nothing},
		{"Take", 24, 2, api.Op{Kind: api.Take, A: 3, B: 1}, fill, nothing},
		{"Take, empty", 24, 15, api.Op{Kind: api.Take, A: 3, B: 1}, nothing, nothing},
		{"Quit", 24, 1, api.Op{Kind: api.Quit, A: 9}, nothing, nothing},
		{"Grow", 24, 1, api.Op{Kind: api.Grow, A: 1}, nothing, nothing},
	}
}

// play picks so often, with what is done meanwhile, and tells how many picks there were until the end.
func (s scene) play(w *world, most int) int {
	w.t.Helper()
	s.ahead(w)
	w.begin(1, s.op.Kind, s.op.A, s.op.B)
	for i := range most {
		over := w.pick(1)
		if over {
			return i + 1
		}
		if i == 0 {
			s.meanwhile(w)
		}
	}
	return most
}

// A process that ends while an operation of it is under way: the next call is refused, and with it the operation has ended, wherever it was.
func TestWhoEndsMeanwhile(t *testing.T) {
	for _, s := range scenes() {
		if many := s.play(newFamily(t, s.frames), 15); many != s.picks {
			t.Errorf("%s: %d picks", s.name, many)
		}
		for i := range s.picks {
			w := newFamily(t, s.frames)
			s.play(w, i)
			w.ok(1, api.Exit, 8)
			left := w.k.State()
			w.ends(1, 1, 0, api.ErrCaller)
			if told, _ := w.l.Done(1); len(told) == 0 || told[len(told)-1] != (api.Done{Op: s.op, Err: api.ErrCaller}) {
				t.Errorf("%s, ended behind %d picks: %+v is told", s.name, i, told)
			}
			if !sameState(left, w.k.State()) {
				t.Errorf("%s, ended behind %d picks: something is changed by who may not call", s.name, i)
			}
			if over, err := w.l.Pick(1); over || err != api.ErrAgain {
				t.Errorf("%s, ended behind %d picks: Pick = %v, %d", s.name, i, over, err)
			}
		}
	}
}

// The operations as they were begun, their errors and values, in the order in which they have ended.
func TestDoneTellsAll(t *testing.T) {
	w := newParent(t, 16, 2)
	if told, err := w.l.Done(0); len(told) != 0 || err != api.OK {
		t.Errorf("Done(0) of nothing = %v, %d", told, err)
	}
	ops := []api.Done{
		{Op: api.Op{Kind: api.Grow, A: 1, B: 77}},
		{Op: api.Op{Kind: api.Grow, A: 9, B: -1}, Err: api.ErrNumber},
		{Op: api.Op{Kind: api.Put, A: 2, B: 2}},
		{Op: api.Op{Kind: api.Take, A: 0, B: 1}, Value: 7},
		{Op: api.Op{Kind: api.Wait, A: math.MinInt, B: math.MaxInt}, Err: api.ErrAgain},
		{Op: api.Op{Kind: api.Fork, A: 5, B: 6}, Value: 1},
		{Op: api.Op{Kind: api.Fork, A: 6, B: 5}, Err: api.ErrFull},
		{Op: api.Op{Kind: api.MakePipe, A: 0, B: 3}, Err: api.ErrState},
		{Op: api.Op{Kind: api.Quit, A: 3, B: 4}, Err: api.ErrSlot},
	}
	for i, want := range ops {
		w.begin(0, want.Op.Kind, want.Op.A, want.Op.B)
		if told, _ := w.l.Done(0); len(told) != i {
			t.Errorf("with one under way behind %d: %+v is told", i, told)
		}
		for !w.pick(0) {
			if told, _ := w.l.Done(0); len(told) != i {
				t.Errorf("with one under way behind %d: %+v is told", i, told)
			}
		}
		if told, err := w.l.Done(0); err != api.OK || !slices.Equal(told, ops[:i+1]) {
			t.Fatalf("Done(0) = %+v, %d, want %+v", told, err, ops[:i+1])
		}
	}
	if told, err := w.l.Done(1); len(told) != 0 || err != api.OK {
		t.Errorf("Done(1) = %v, %d", told, err)
	}
}

// What is told is new memory, its spare room too (P2).
func TestDoneIsNewMemory(t *testing.T) {
	w := newParent(t, 16, 2)
	var lists [][]api.Done
	for i := range 9 {
		w.does(0, api.Quit, i, 0, 1, 0, api.ErrSlot)
		first, _ := w.l.Done(0)
		second, _ := w.l.Done(0)
		room := first[:cap(first)]
		for j := range room {
			room[j] = api.Done{Value: 77, Err: 77}
		}
		lists = append(lists, second)
	}
	w.look(w.k.State(), 0)
	for i, list := range lists {
		if !slices.Equal(list, w.done[0][:i+1]) {
			t.Errorf("behind others that were written into, a list is %+v", list)
		}
	}
}

// Libs know nothing of one another but by their kernel (P2).
func TestTwoLibsOfOneKernel(t *testing.T) {
	k := newKernel(t, 8, 3, 0)
	one, two := lib.New(k), lib.New(k)
	defer one.Cancel()
	one.Begin(0, api.Op{Kind: api.Fork})
	if over, err := two.Pick(0); over || err != api.ErrAgain {
		t.Errorf("Pick of the other lib's = %v, %d", over, err)
	}
	two.Begin(0, api.Op{Kind: api.Grow, A: 2})
	one.Pick(0)
	two.Pick(0)
	two.Cancel()
	if over, err := one.Pick(0); !over || err != api.OK {
		t.Errorf("Pick behind the other lib's Cancel = %v, %d", over, err)
	}
	a, _ := one.Done(0)
	b, _ := two.Done(0)
	if !slices.Equal(a, []api.Done{{Op: api.Op{Kind: api.Fork}, Value: 1}}) || !slices.Equal(b, []api.Done{{Op: api.Op{Kind: api.Grow, A: 2}}}) {
		t.Errorf("Done = %+v and %+v", a, b)
	}
	if s := k.State(); s.Slots[1].Table != 1 || s.Slots[0].Pages[2].Frame != 2 {
		t.Errorf("the kernel is %+v", s)
	}
}
