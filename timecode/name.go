package timecode

import "dailies/api"

// A name is four fields of two digits, with a mark between one and the next.
const (
	fieldSize  = 3 // with its mark
	minuteAt   = 1 * fieldSize
	secondAt   = 2 * fieldSize
	frameAt    = 3 * fieldSize
	lastMarkAt = frameAt - 1
	nameSize   = frameAt + 2
)

// clock is what a name tells.
type clock struct {
	hour, minute, second, frame int
}

// dayMinute is how many minutes of the day stand ahead of its own.
func (c clock) dayMinute() int { return 60*c.hour + c.minute }

// clockAt is what the name at a place among all names of a day tells, those that are left out too.
func (p pace) clockAt(place int) clock {
	seconds := place / p.count
	return clock{hour: seconds / 3600, minute: seconds / 60 % 60, second: seconds % 60, frame: place % p.count}
}

// number is that of the frame of a name that is given.
func (p pace) number(c clock) int {
	place := p.count*(60*c.dayMinute()+c.second) + c.frame
	// Its own minute counts, too: names are left out ahead of all that it gives.
	minutes := c.dayMinute() - c.dayMinute()/10
	return place - minutes*p.leftOut
}

// lastMark is what stands ahead of a name's frame.
func (p pace) lastMark() rune {
	if p.drops() {
		return ';'
	}
	return ':'
}

// text is the name that tells this.
func (p pace) text(c clock) string {
	b := make([]byte, 0, nameSize)
	b = append(twoDigits(b, c.hour), ':')
	b = append(twoDigits(b, c.minute), ':')
	b = append(twoDigits(b, c.second), byte(p.lastMark()))
	return string(twoDigits(b, c.frame))
}

// twoDigits puts a number below 100 behind bytes.
func twoDigits(to []byte, n int) []byte { return append(to, byte('0'+n/10), byte('0'+n%10)) }

// read is what a text of a name's form tells; an error with its place, if it has another form.
func (p pace) read(s string) (clock, int, api.Errno) {
	var fields [4]int
	// Runes that are right are one byte each: the place of the first wrong one is where its first byte stands.
	for at, r := range s {
		if !p.stands(at, r) {
			return clock{}, at, api.ErrTimecodeForm
		}
		if digitAt(at) {
			fields[at/fieldSize] = 10*fields[at/fieldSize] + int(r-'0')
		}
	}
	if len(s) < nameSize {
		return clock{}, len(s), api.ErrTimecodeForm
	}
	return clock{fields[0], fields[1], fields[2], fields[3]}, 0, api.OK
}

// digitAt tells whether a digit, and no mark, stands at a name's place.
func digitAt(at int) bool { return at%fieldSize < 2 }

// stands tells whether a name may have this rune at a place.
func (p pace) stands(at int, r rune) bool {
	switch {
	case at >= nameSize:
		return false
	case digitAt(at):
		return r >= '0' && r <= '9'
	case at == lastMarkAt:
		return r == p.lastMark()
	default:
		return r == ':'
	}
}

// check tells what is wrong with what a text of a name's form tells, and at which place.
func (p pace) check(c clock) (int, api.Errno) {
	switch {
	case c.hour > 23:
		return 0, api.ErrTimecodeDay
	case c.minute > 59:
		return minuteAt, api.ErrTimecodeForm
	case c.second > 59:
		return secondAt, api.ErrTimecodeForm
	case c.frame >= p.count:
		return frameAt, api.ErrTimecodeForm
	case c.minute%10 != 0 && c.second == 0 && c.frame < p.leftOut:
		return frameAt, api.ErrTimecodeDrop
	default:
		return 0, api.OK
	}
}
