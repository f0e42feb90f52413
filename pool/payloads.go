package pool

import (
	"dailies/api"
	"dailies/picture"
	"dailies/plane"
)

// valid looks whether a frame may be coded so.
func valid(f api.Frame, c api.Config) api.Errno {
	if e := plane.Valid(f); e != api.OK {
		return e
	}
	return picture.Valid(c, f.Shape)
}

// payloadsOf are those of a frame's slices by a rung, each made by the worker who took it.
func payloadsOf(f api.Frame, c api.Config, rung api.Rung, workers int) [][]byte {
	g := grid{f.Shape, c.SliceW, c.SliceH}
	numbers := g.numbers()
	// A payload hangs on its slice's samples alone, so that the slice may as well be a frame; of the whole one picture would look at every sample each time.
	work := func(k int) []byte {
		payload, _ := picture.Payload(lift(f, g.rect(k)), c, rung, 0)
		return payload
	}
	payloads := make([][]byte, len(numbers))
	for m := range share(numbers, workers, work) {
		payloads[m.number] = m.thing
	}
	return payloads
}

// length is how many bytes the record of these payloads has: it is known without the record, so that rungs beyond the cap are spared the parity rows.
func length(payloads [][]byte, rows int) int {
	total, longest := 36+8*len(payloads)+4*rows, 0
	for _, payload := range payloads {
		total += len(payload)
		longest = max(longest, len(payload))
	}
	return total + rows*longest
}

// assembled is the record of a step's payloads, which picture never refuses.
func assembled(s api.Shape, c api.Config, step int, payloads [][]byte) api.Coded {
	rung := c.Ladder[step]
	b, _ := picture.Assemble(s, c, rung, payloads)
	return api.Coded{Bytes: b, Step: step, Rung: rung}
}
