package kernel_test

import (
	"math"
	"testing"

	"burrow/api"
)

func TestExampleOfMemory(t *testing.T) {
	k := fresh(t, 4, 1, 0)
	run(t, k, step{call: api.Map, a: 1, b: 2})
	if e := k.State().Slots[0].Pages[1]; e != (api.Entry{Frame: 2, Writes: true}) {
		t.Errorf("page 1 is %+v", e)
	}
	run(t, k,
		step{call: api.Store, a: 1, b: 3, c: 9},
		step{call: api.Load, a: 1, b: 3, want: 9},
		step{call: api.Map, a: 0, b: 2, err: api.ErrFrame},
		step{call: api.Map, a: 4, b: 9, err: api.ErrNumber},
	)
}

func TestNoSuchCall(t *testing.T) {
	k := fresh(t, 4, 2, 1)
	for _, call := range []int{math.MinInt, -1, 0, api.Store + 1, math.MaxInt} {
		for _, slot := range []int{math.MinInt, -1, 0, 1, 2, math.MaxInt} {
			if n, err := k.Call(slot, call, [3]int{-1, -1, -1}); n != 0 || err != api.ErrCall {
				t.Errorf("Call(%d, %d) = %d, %d", slot, call, n, err)
			}
		}
	}
}

func TestWhoMayCall(t *testing.T) {
	k := fresh(t, 4, 2, 1)
	for _, slot := range []int{math.MinInt, -1, 1, 2, math.MaxInt} {
		for call := range rules() {
			if n, err := k.Call(slot, call, [3]int{-1, -1, -1}); n != 0 || err != api.ErrCaller {
				t.Errorf("Call(%d, %d) = %d, %d", slot, call, n, err)
			}
		}
	}
}

func TestYieldDoesNothing(t *testing.T) {
	k := fresh(t, 4, 2, 1)
	run(t, k, step{call: api.Yield, a: math.MinInt, b: -1, c: math.MaxInt})
	if s := k.State(); !sameState(s, firstState(api.Config{Frames: 4, Slots: 2, Pipes: 1})) {
		t.Errorf("State = %+v", s)
	}
}

func TestMapEachPageAndFrame(t *testing.T) {
	k := fresh(t, 5, 1, 0)
	for page := range api.Pages {
		run(t, k,
			step{call: api.Map, a: page, b: 4 - page},
			step{call: api.Store, a: page, b: page, c: 10 + page},
			step{call: api.Map, a: page, b: 0, err: api.ErrPage},
		)
	}
	for page := range api.Pages {
		for word := range api.Words {
			want := 0
			if word == page {
				want = 10 + page
			}
			run(t, k, step{call: api.Load, a: page, b: word, want: want})
		}
		if f := k.State().Frames[4-page]; f.Kind != api.Data || f.Owner != 0 || f.Words[page] != 10+page {
			t.Errorf("the frame of page %d is %+v", page, f)
		}
	}
}

func TestFrameThatIsFreeAgainHasNoWords(t *testing.T) {
	k := fresh(t, 2, 1, 0)
	run(t, k,
		step{call: api.Map, a: 3, b: 1},
		step{call: api.Store, a: 3, b: 2, c: 7},
		step{call: api.Protect, a: 3},
		step{call: api.Unmap, a: 3},
	)
	if s := k.State(); !sameState(s, firstState(api.Config{Frames: 2, Slots: 1})) {
		t.Errorf("State = %+v", s)
	}
	run(t, k,
		step{call: api.Unmap, a: 3, err: api.ErrPage},
		step{call: api.Map, a: 0, b: 1},
		step{call: api.Load, a: 0, b: 2},
		step{call: api.Store, a: 0, b: 2, c: 1},
	)
}

func TestProtect(t *testing.T) {
	k := fresh(t, 3, 1, 0)
	run(t, k, step{call: api.Map, a: 0, b: 1}, step{call: api.Map, a: 1, b: 2})
	for _, b := range []int{math.MinInt, -1, 1, 2, math.MaxInt} {
		run(t, k,
			step{call: api.Protect, a: 0, b: 0},
			step{call: api.Store, a: 0, c: 5, err: api.ErrPage},
			step{call: api.Store, a: 1, c: 5},
			step{call: api.Load, a: 0},
			step{call: api.Protect, a: 0, b: b},
			step{call: api.Protect, a: 0, b: b},
			step{call: api.Store, a: 0, c: b},
			step{call: api.Load, a: 0, want: b},
			step{call: api.Store, a: 0, c: 0},
		)
	}
}

func TestPagesWithoutAFrame(t *testing.T) {
	k := fresh(t, 3, 1, 0)
	for page := range api.Pages {
		for _, call := range []int{api.Unmap, api.Protect, api.Load, api.Store} {
			run(t, k, step{call: call, a: page, err: api.ErrPage})
		}
	}
}
