package conform

import (
	"iter"

	"dailies/api"
	"dailies/cuts"
	"dailies/reel"
)

// check tells why a list cannot be made of these reels.
func check(l api.CutList, reels map[string]*reel.Reel) error {
	if err := cuts.Check(l); err != nil {
		return err
	}
	for i, event := range l.Events {
		if e := checkEvent(l.Rate, event, reels[event.Reel]); e != api.OK {
			return &cuts.EventError{Event: i, Err: e}
		}
	}
	return nil
}

// checkEvent tells why an event cannot be made of its reel.
func checkEvent(rate api.Rate, event api.Event, from *reel.Reel) api.Errno {
	switch {
	case from == nil:
		return api.ErrConformReel
	case from.Label().Rate != rate:
		return api.ErrConformRate
	case number(from, event.In) < 0 || number(from, event.Out) > from.Count():
		return api.ErrConformRange
	default:
		return api.OK
	}
}

// steps tells those of a list that can be made of these reels, each with its event. Build takes them one by one: all of them, at once, might be many more than a reel has room for.
func steps(l api.CutList, reels map[string]*reel.Reel) iter.Seq2[int, Step] {
	return func(tell func(int, Step) bool) {
		for i := range l.Events {
			for k := range count(l, i) {
				if !tell(i, stepAt(l, reels, i, k)) {
					return
				}
			}
		}
	}
}

// count is how many steps an event has: the last of its frames are those of the next event's fade.
func count(l api.CutList, i int) int {
	n := l.Events[i].Out - l.Events[i].In
	if i+1 < len(l.Events) {
		n -= l.Events[i+1].Fade
	}
	return n
}

// stepAt is the step k of an event: that of its frame k, with which the event ahead is mixed as long as it fades.
func stepAt(l api.CutList, reels map[string]*reel.Reel, i int, k int) Step {
	event := l.Events[i]
	own := number(reels[event.Reel], event.In+k)
	if k >= event.Fade {
		return Step{Reel: event.Reel, Frame: own}
	}
	ahead := l.Events[i-1]
	return Step{
		Reel:  ahead.Reel,
		Frame: number(reels[ahead.Reel], ahead.Out-event.Fade+k),
		Over:  event.Reel,
		With:  own,
		Part:  k + 1,
		Of:    event.Fade + 1,
	}
}

// number is that of a reel's record which is a frame of a day.
func number(r *reel.Reel, frame int) int { return frame - r.Label().Start }
