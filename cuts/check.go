package cuts

import (
	"unicode/utf8"

	"dailies/api"
	"dailies/timecode"
)

// checkList tells what is wrong with a list, whatever its events are.
func checkList(l api.CutList) error {
	if e := checkNote(l.Title); e != api.OK {
		return &EventError{Event: ofList, Err: e}
	}
	if _, e := timecode.PerDay(l.Rate); e != api.OK {
		return &EventError{Event: ofList, Err: api.ErrTimecodeRate}
	}
	if len(l.Events) > api.MaxEvents {
		return &EventError{Event: ofList, Err: api.ErrCutsMany}
	}
	return nil
}

// checkEvent tells what is wrong with an event of a list that may be but for its events; those ahead of it may be.
func checkEvent(l api.CutList, i int) error {
	e := l.Events[i]
	perDay, _ := timecode.PerDay(l.Rate)
	switch {
	case !isName(e.Reel):
		return &EventError{Event: i, Err: api.ErrCutsWord}
	case e.In < 0 || e.In >= e.Out || e.Out >= perDay:
		return &EventError{Event: i, Err: api.ErrCutsTime}
	case e.Fade < 0 || e.Fade > min(api.MaxFade, frames(e), leftAhead(l, i)):
		return &EventError{Event: i, Err: api.ErrCutsOrder}
	}
	if n := checkNote(e.Note); n != api.OK {
		return &EventError{Event: i, Err: n}
	}
	return nil
}

// frames is how many an event has.
func frames(e api.Event) int { return e.Out - e.In }

// leftAhead is how many frames the event ahead has left to fade with.
func leftAhead(l api.CutList, i int) int {
	if i == 0 {
		return 0
	}
	ahead := l.Events[i-1]
	return frames(ahead) - ahead.Fade
}

// checkNote tells what is wrong with a title or a note.
func checkNote(s string) api.Errno {
	switch {
	case len(s) > api.MaxTitle:
		return api.ErrCutsLong
	case !utf8.ValidString(s):
		return api.ErrCutsUTF8
	default:
		return api.OK
	}
}

// isName tells whether a text may name a reel.
func isName(s string) bool {
	for _, r := range s {
		if !inName(r) {
			return false
		}
	}
	return len(s) >= 1 && len(s) <= api.MaxName
}

// inName tells whether a name may have this rune.
func inName(r rune) bool {
	return r >= 'a' && r <= 'z' || r >= '0' && r <= '9' || r == '_' || r == '-'
}
