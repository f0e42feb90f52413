package picture

import (
	"slices"

	"dailies/api"
	"dailies/parity"
	"dailies/plane"
	"dailies/tile"
)

// job is a frame that may be, and a configuration that may be for it.
type job struct {
	frame  api.Frame
	config api.Config
	grid   *tile.Grid
}

func newJob(f api.Frame, c api.Config) (job, api.Errno) {
	if e := plane.Valid(f); e != api.OK {
		return job{}, e
	}
	grid, e := cut(f.Shape, c)
	if e != api.OK {
		return job{}, e
	}
	return job{frame: f, config: c, grid: grid}, api.OK
}

// try codes all slices by a rung.
func (j job) try(rung api.Rung) draft {
	payloads := make([][]byte, j.grid.Count())
	for k := range payloads {
		payloads[k] = j.payload(rung, k)
	}
	return newDraft(j.frame.Shape, j.config, rung, payloads)
}

// draft is a record ahead of its parity rows and sums: how long it will be is known without them, so that rungs beyond the cap are spared the work.
type draft struct {
	head     api.Head
	payloads [][]byte
}

func newDraft(s api.Shape, c api.Config, rung api.Rung, payloads [][]byte) draft {
	lengths := make([]int, len(payloads))
	for k, payload := range payloads {
		lengths[k] = len(payload)
	}
	h := api.Head{
		Shape:  s,
		SliceW: c.SliceW,
		SliceH: c.SliceH,
		Rung:   rung,
		Slices: len(payloads),
		Parity: c.Parity,
		Length: recordLength(lengths, c.Parity),
	}
	return draft{head: h, payloads: payloads}
}

// record is the draft's bytes, parity rows and sums made.
func (d draft) record() []byte {
	var rows [][]byte
	if d.head.Parity > 0 {
		// No more payloads have parity, and none is longer, than Make takes.
		rows, _ = parity.Make(d.payloads, d.head.Parity)
	}
	front := [][]byte{headBytes(d.head), tableBytes(d.payloads, rows)}
	return slices.Concat(slices.Concat(front, d.payloads, rows)...)
}

// coded is what is told of the draft as the record of a step.
func (d draft) coded(step int) api.Coded {
	return api.Coded{Bytes: d.record(), Step: step, Rung: d.head.Rung}
}
