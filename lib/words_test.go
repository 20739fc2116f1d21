package lib_test

import (
	"testing"

	"burrow/api"
)

func TestPut(t *testing.T) {
	w := newParent(t, 8, 2)
	w.does(0, api.Put, 2, 2, 1, 0, api.OK)
	if s := w.k.State(); s.Ducts[0].Count != 1 || s.Frames[3].Words[0] != 7 {
		t.Errorf("behind Put the ring is %+v, %+v", s.Ducts[0], s.Frames[3])
	}
	w.does(0, api.Put, 2, 1, 1, 0, api.ErrFile)
	w.does(0, api.Put, 2, 0, 1, 0, api.ErrFile)
	for _, far := range append(farNumbers(), 4) {
		w.does(0, api.Put, far, 2, 1, 0, api.ErrNumber)
		w.does(0, api.Put, 2, far, 1, 0, api.ErrNumber)
	}
	w.ok(0, api.Unmap, 0)
	w.does(0, api.Put, 2, 2, 1, 0, api.ErrPage)
}

// Put at a full pipe is made anew until there is room, and what is written is what the word is then.
func TestPutAtAFullPipe(t *testing.T) {
	w := newParent(t, 8, 2)
	for range api.Words {
		w.does(0, api.Put, 2, 2, 1, 0, api.OK)
	}
	w.begin(0, api.Put, 2, 2)
	w.picks(0, 20)
	w.ok(0, api.Store, 0, 2, 8)
	w.ok(0, api.Read, 1, 0, 3)
	w.ends(0, 1, 0, api.OK)
	if s := w.k.State(); s.Ducts[0].Count != api.Words || s.Frames[3].Words != [api.Words]int{8, 7, 7, 7} {
		t.Errorf("the ring is %+v, %+v", s.Ducts[0], s.Frames[3])
	}
}

func TestPutThatNobodyReads(t *testing.T) {
	w := newParent(t, 8, 2)
	w.ok(0, api.Close, 1)
	w.does(0, api.Put, 2, 2, 1, 0, api.ErrBroken)
	full := newParent(t, 8, 2)
	for range api.Words {
		full.does(0, api.Put, 2, 2, 1, 0, api.OK)
	}
	full.begin(0, api.Put, 2, 2)
	full.picks(0, 3)
	full.ok(0, api.Close, 1)
	full.ends(0, 1, 0, api.ErrBroken)
}

func TestTake(t *testing.T) {
	w := newParent(t, 8, 2)
	w.does(0, api.Put, 2, 2, 1, 0, api.OK)
	w.begin(0, api.Take, 1, 1)
	w.picks(0, 1)
	if w.word(0, 0, 1) != 7 || w.k.State().Ducts[0].Count != 0 {
		t.Errorf("behind its Read, Take has left the word %d", w.word(0, 0, 1))
	}
	w.ends(0, 1, 7, api.OK)
	w.does(0, api.Take, 1, 2, 1, 0, api.ErrFile)
	w.does(0, api.Take, 1, 3, 1, 0, api.ErrFile)
	for _, far := range append(farNumbers(), 4) {
		w.does(0, api.Take, far, 1, 1, 0, api.ErrNumber)
		w.does(0, api.Take, 1, far, 1, 0, api.ErrNumber)
	}
	w.ok(0, api.Protect, 0, 0)
	w.does(0, api.Take, 1, 1, 1, 0, api.ErrPage)
}

// Take at an empty pipe is made anew until there is a word, or will be none.
func TestTakeAtAnEmptyPipe(t *testing.T) {
	w := newParent(t, 8, 2)
	w.begin(0, api.Take, 3, 1)
	w.picks(0, 20)
	w.ok(0, api.Write, 2, 0, 2)
	w.ends(0, 2, 7, api.OK)
	w.begin(0, api.Take, 3, 1)
	w.picks(0, 3)
	w.ok(0, api.Close, 2)
	w.ends(0, 1, 0, api.ErrEnd)
	w.does(0, api.Take, 3, 1, 1, 0, api.ErrEnd)
}

// What is in the pipe is had behind its last writer too, and then the end.
func TestTakeAtTheEnd(t *testing.T) {
	w := newParent(t, 8, 2)
	w.does(0, api.Put, 2, 2, 1, 0, api.OK)
	w.ok(0, api.Close, 2)
	w.does(0, api.Take, 0, 1, 2, 7, api.OK)
	w.does(0, api.Take, 0, 1, 1, 0, api.ErrEnd)
}

// The value is what Load tells: what others do between Read and Load is to be seen.
func TestTakeEndsWithLoad(t *testing.T) {
	w := newParent(t, 8, 2)
	for range 2 {
		w.does(0, api.Put, 2, 2, 1, 0, api.OK)
	}
	w.begin(0, api.Take, 1, 1)
	w.picks(0, 1)
	w.ok(0, api.Store, 0, 1, 99)
	w.ends(0, 1, 99, api.OK)
	w.begin(0, api.Take, 1, 1)
	w.picks(0, 1)
	w.ok(0, api.Unmap, 0)
	w.ends(0, 1, 0, api.ErrPage)
}

// Words that one process puts another one takes, in the same order, each once, whoever is picked how often (P13).
func TestWordsComeInOrder(t *testing.T) {
	for seed := range 20 {
		d := dice(seed + 1)
		w := newParent(t, 12, 2)
		w.does(0, api.Fork, 0, 0, 6, 1, api.OK)
		w.ok(0, api.Close, 1)
		w.ok(1, api.Close, 2)
		const many = 40
		sent, taken := 0, 0
		for taken < many {
			if d.below(3) > seed%2 && sent < many {
				if w.under[0] == nil {
					w.ok(0, api.Store, 0, 3, 1000+sent)
					w.begin(0, api.Put, 3, 2)
				}
				if w.pick(0) {
					sent++
				}
			}
			if w.under[1] == nil {
				w.begin(1, api.Take, 1, 1)
			}
			if d.below(3) > 1-seed%2 && w.pick(1) {
				if got := w.last(1); got.Err != api.OK || got.Value != 1000+taken {
					t.Fatalf("word %d was taken as %+v", taken, got)
				}
				taken++
			}
		}
		w.cancel()
		w.ok(0, api.Close, 2)
		w.does(1, api.Take, 1, 1, 1, 0, api.ErrEnd)
	}
}
