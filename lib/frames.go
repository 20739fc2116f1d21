package lib

import (
	"container/heap"

	"burrow/api"
)

// frames is a heap of those that are thought to be free: the least one is tried next.
type frames []int

func (f frames) Len() int           { return len(f) }
func (f frames) Less(i, j int) bool { return f[i] < f[j] }
func (f frames) Swap(i, j int)      { f[i], f[j] = f[j], f[i] }
func (f *frames) Push(frame any)    { *f = append(*f, frame.(int)) }

func (f *frames) Pop() any {
	last := len(*f) - 1
	frame := (*f)[last]
	*f = (*f)[:last]
	return frame
}

func freeFrames(s api.State) frames {
	var free frames
	for i, f := range s.Frames {
		if f.Kind == api.Free {
			heap.Push(&free, i)
		}
	}
	return free
}

// callWithFrame makes a call with the next frame, at this place of its arguments, until it is not refused for the frame. A frame that was neither refused nor used is the next one still.
func (o *operation) callWithFrame(number int, args [3]int, place int) api.Errno {
	for len(o.free) > 0 {
		args[place] = o.free[0]
		_, err := o.call(number, args)
		if err == api.OK || err == api.ErrFrame {
			heap.Pop(&o.free)
		}
		if err != api.ErrFrame {
			return err
		}
	}
	return o.yield(api.ErrFull)
}
