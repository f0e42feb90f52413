package view

import (
	"slices"

	"dailies/api"
	"dailies/crc"
	"dailies/parity"
)

// piece is a payload or a parity row, and how it stands by its sum: Lost, as long as it is spoilt.
type piece struct {
	bytes []byte
	mark  api.Mark
}

// readSlices reads the payloads of the slices that are asked for, and, where that helps a spoilt one of them, all else.
func (l *look) readSlices(asked []int) api.Errno {
	for _, k := range asked {
		if e := l.readPiece(k); e != api.OK {
			return e
		}
	}
	if l.head.Parity == 0 || !slices.ContainsFunc(asked, l.spoilt) {
		return api.OK
	}
	for k := range l.entries {
		if e := l.readPiece(k); e != api.OK {
			return e
		}
	}
	l.mend()
	return api.OK
}

// readPiece reads a payload or a parity row, once.
func (l *look) readPiece(k int) api.Errno {
	if _, there := l.pieces[k]; there {
		return api.OK
	}
	b, e := l.read(l.entries[k].At, l.entries[k].Length)
	if e != api.OK {
		return e
	}
	l.pieces[k] = l.weighed(k, b, api.Sound)
	return api.OK
}

// weighed is bytes in the place k: of this mark, if they are as their sum says.
func (l *look) weighed(k int, b []byte, mark api.Mark) piece {
	if crc.Sum(b) != l.entries[k].Sum {
		mark = api.Lost
	}
	return piece{bytes: b, mark: mark}
}

func (l *look) spoilt(k int) bool { return l.pieces[k].mark == api.Lost }

// mend works out all payloads that are spoilt, if parity allows, all of the record having been read.
func (l *look) mend() {
	var rows [][]byte
	var sizes, lost []int
	for k, entry := range l.entries {
		rows = append(rows, l.pieces[k].bytes)
		sizes = append(sizes, entry.Length)
		if l.spoilt(k) {
			lost = append(lost, k)
		}
	}
	n := l.head.Slices
	// It refuses more lost ones than there are parity rows: then all stays as it is.
	all, e := parity.Restore(rows[:n], sizes[:n], rows[n:], lost)
	if e != api.OK {
		return
	}
	for _, k := range lost {
		if k < n {
			l.pieces[k] = l.weighed(k, l.keep(all[k], sizes[k]), api.Mended)
		}
	}
}
