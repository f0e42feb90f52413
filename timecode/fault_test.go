package timecode_test

import (
	"fmt"
	"strings"
	"testing"

	"dailies/api"
	"dailies/timecode"
)

// texts are some of a name's form: names that are given, a name that is left out, and some beyond the day.
func (x said) texts() []string {
	return []string{
		x.named(0, 0, 0, 0), x.named(1, 1, 1, 7), x.named(23, 59, 59, x.count-1),
		x.named(0, 1, 0, 0), x.named(24, 0, 0, 0), x.named(99, 99, 99, 99),
	}
}

// signs are texts of one sign, or of bytes that are none: more than one byte, or no UTF-8.
func signs() []string {
	return []string{
		"é", "٣", "߂", "३", "０", "９", "：", "；", "꞉", "𝟘", "𝟡", "\u037e", "\ufffd", "\ufeff", "\u200b", "\U0010ffff",
		"\xff", "\x80", "\xb0", "\xc3", "\xe2\x82", "\xf0\x9f\x98", "\xc0\xb0", "\xc0\xba", "\xe0\x80\xb0", "\xed\xa0\x80", "\xf4\x90\x80\x80", "0\u0301",
	}
}

func TestNumberWithAWrongByteAtEachPlace(t *testing.T) {
	eachRate(t, func(t *testing.T, x said) {
		for _, s := range x.texts() {
			for at := range len(s) {
				for b := range 256 {
					x.reads(t, s[:at]+string([]byte{byte(b)})+s[at+1:])
				}
			}
		}
	})
}

func TestNumberWithTwoWrongBytesTellsTheFirst(t *testing.T) {
	for _, x := range rates() {
		s := x.named(1, 2, 3, 4)
		for first := range len(s) {
			for second := first + 1; second < len(s); second++ {
				b := []byte(s)
				b[first], b[second] = 'x', '.'
				refused(t, x.rate, string(b), first, api.ErrTimecodeForm)
				refused(t, x.rate, string(b[:second]), first, api.ErrTimecodeForm)
				refused(t, x.rate, string(b)+"0", first, api.ErrTimecodeForm)
			}
		}
	}
}

func TestNumberOfFewerAndMoreBytes(t *testing.T) {
	for _, x := range rates() {
		for _, s := range x.texts() {
			for n := range len(s) {
				refused(t, x.rate, s[:n], n, api.ErrTimecodeForm)
			}
			for b := range 256 {
				refused(t, x.rate, s+string([]byte{byte(b)}), 11, api.ErrTimecodeForm)
			}
			for _, more := range append(signs(), s, ":00", strings.Repeat("0", 1<<20)) {
				refused(t, x.rate, s+more, 11, api.ErrTimecodeForm)
			}
			refused(t, x.rate, " "+s, 0, api.ErrTimecodeForm)
			refused(t, x.rate, s+" ", 11, api.ErrTimecodeForm)
		}
	}
}

func TestNumberOfSignsOfManyBytesAndOfNone(t *testing.T) {
	for _, x := range rates() {
		s := x.named(1, 1, 1, 7)
		for at := range len(s) {
			for _, sign := range signs() {
				x.reads(t, s[:at]+sign+s[at+1:])     // in the place of one byte
				x.reads(t, s[:at]+sign+s[at:])       // ahead of it
				x.reads(t, s[:at]+sign)              // at the text's end
				x.reads(t, (s[:at] + sign + s)[:11]) // in as many bytes as a name has
			}
		}
		refused(t, x.rate, "0٣:00:00"+x.mark()+"00", 1, api.ErrTimecodeForm)
		refused(t, x.rate, "00：00:00"+x.mark()+"00", 2, api.ErrTimecodeForm)
		refused(t, x.rate, "00:00:00"+x.mark()+"0\xff", 10, api.ErrTimecodeForm)
	}
}

func TestNumberOfTheOtherMark(t *testing.T) {
	for _, x := range rates() {
		for _, y := range rates() {
			s := y.named(1, 10, 1, 7)
			if x.mark() != y.mark() {
				refused(t, x.rate, s, 8, api.ErrTimecodeForm)
			}
			x.reads(t, s)
		}
		refused(t, x.rate, "00;00:00"+x.mark()+"00", 2, api.ErrTimecodeForm)
		refused(t, x.rate, "00:00;00"+x.mark()+"00", 5, api.ErrTimecodeForm)
		refused(t, x.rate, "00:00:00.00", 8, api.ErrTimecodeForm)
	}
}

func TestNumberOfWhatNoClockTells(t *testing.T) {
	for _, x := range rates() {
		for hour := range 100 {
			x.reads(t, x.named(hour, 59, 59, x.count-1))
		}
		for n := range 100 {
			x.reads(t, x.named(23, n, 59, 5))
			x.reads(t, x.named(23, 59, n, 5))
			x.reads(t, x.named(23, 59, 59, n))
			x.reads(t, x.named(0, 1, 0, n))
			x.reads(t, x.named(0, n, 0, 0))
		}
		refused(t, x.rate, x.named(24, 0, 0, 0), 0, api.ErrTimecodeDay)
		refused(t, x.rate, x.named(0, 60, 0, 0), 3, api.ErrTimecodeForm)
		refused(t, x.rate, x.named(0, 0, 60, 0), 6, api.ErrTimecodeForm)
		refused(t, x.rate, x.named(0, 0, 0, x.count), 9, api.ErrTimecodeForm)
	}
}

// Every error with every other one: the one that is named first is told.
func TestNumberTellsTheErrorThatIsNamedFirst(t *testing.T) {
	eachRate(t, func(t *testing.T, x said) {
		hours := []int{0, 9, 10, 19, 20, 23, 24, 25, 99}
		minutes := []int{0, 1, 9, 10, 11, 49, 50, 51, 59, 60, 61, 70, 99}
		seconds := []int{0, 1, 9, 10, 59, 60, 61, 99}
		frames := []int{0, 1, 2, 3, 4, 5, 23, 24, 25, 29, 30, 31, 49, 50, 51, 59, 60, 61, 99}
		for _, hour := range hours {
			for _, minute := range minutes {
				for _, second := range seconds {
					for _, frame := range frames {
						s := x.named(hour, minute, second, frame)
						x.reads(t, s)
						refused(t, 0, s, 0, api.ErrTimecodeRate)
						refused(t, x.rate, s[:10]+"x", 10, api.ErrTimecodeForm)
						refused(t, x.rate, s+"0", 11, api.ErrTimecodeForm)
						refused(t, x.rate, s[:8]+"!"+s[9:], 8, api.ErrTimecodeForm)
					}
				}
			}
		}
	})
}

func TestNumberOfTextsByChance(t *testing.T) {
	eachRate(t, func(t *testing.T, x said) {
		c := chance(1800 + x.rate)
		for range 200000 {
			b := []byte(x.named(c.below(30), c.below(70), c.below(70)*c.below(2), c.below(x.count+3)))
			for range c.below(3) {
				b[c.below(len(b))] = "0123456789:;/ 9\xff\x00"[c.below(17)]
			}
			x.reads(t, string(b[:len(b)-c.below(2)*c.below(12)]))
		}
	})
}

func TestNumberByNoRate(t *testing.T) {
	texts := append(signs(), "", "0", "00:00:00:00", "00:00:00;00", "24:00:00:00", "00:60:00;00", "00:01:00;00", "00:00:00:000")
	for _, r := range noRates() {
		for _, s := range texts {
			refused(t, r, s, 0, api.ErrTimecodeRate)
		}
	}
}

// What is answered is an error that is nil, or a new fault each time.
func TestP5NumbersErrors(t *testing.T) {
	for _, x := range rates() {
		if _, err := timecode.Number(x.rate, x.named(0, 0, 0, 0)); err != nil {
			t.Error(x.rate, "an error that is not nil:", err)
		}
		for _, s := range []string{"", "x", x.named(24, 0, 0, 0), x.named(0, 60, 0, 0)} {
			_, one := timecode.Number(x.rate, s)
			f, ok := one.(*api.Fault)
			if !ok {
				t.Fatalf("%q: %T", s, one)
			}
			at, e := x.fault(s)
			if f.Error() != fmt.Sprintf("dailies: error %d at %d", e, at) {
				t.Error(f.Error())
			}
			*f = api.Fault{At: -7, Err: 9}
			refused(t, x.rate, s, at, e)
		}
	}
}
