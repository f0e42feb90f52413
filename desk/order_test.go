package desk_test

import (
	"fmt"
	"strings"
	"testing"

	"dailies/api"
	"dailies/desk"
)

// refusals are lines that a stocked desk refuses by a call's error, of each command that has one, and which error.
func refusals() map[string]api.Errno {
	long := strings.Repeat("t", 101)
	return map[string]api.Errno{
		"flat a 0 2 10 0 7": api.ErrPlaneShape, "flat q 4 2 11 0 9999": api.ErrPlaneShape, "flat a 4 2 10 0 1024": api.ErrPlaneSample,
		"ramp a 4 0 10 0 1 1": api.ErrPlaneShape, "noise a 4 2 8 0 1": api.ErrPlaneShape,
		"dot a 3 0 0 1": api.ErrPlaneRect, "dot a 0 20 0 9999": api.ErrPlaneRect, "dot a 0 0 0 1024": api.ErrPlaneSample,
		"part a a 1 0 2 2": api.ErrPlaneRect, "part q a 0 0 21 2": api.ErrPlaneRect,
		"mix a a b 2 1": api.ErrArg, "mix q a c 1 2": api.ErrConformShape,
		"show a 0 0 0 21 1": api.ErrPlaneRect, "apart a c": api.ErrPlaneShape, "error a c 3": api.ErrPlaneShape, "error a b 3": api.ErrPlaneRect,
		"pack c v210": api.ErrPixelFormat,
		"head none":   api.ErrPictureHead, "look a none": api.ErrPictureHead, "slice none 9": api.ErrPictureHead, "region a none 1 1 1 1": api.ErrPictureHead, "again x none": api.ErrPictureHead,
		"slice x 4": api.ErrViewSlice, "region a x 1 0 2 2": api.ErrViewRegion, "spoil x 999999999 00": api.ErrMediumRange,
		"record m 2 0 T": api.ErrReelThere, "record m 9 0 T": api.ErrReelLabel, "record e 2 0 " + long: api.ErrReelLabel, "record dead 2 0 T": api.ErrReelThere,
		"goon m": api.ErrReelDone, "goon e": api.ErrReelNone, "goon dead": api.ErrMediumDead,
		"write m a": api.ErrSessionState, "write m c": api.ErrSessionState, "write dead c": api.ErrSessionState, "write n c": api.ErrSessionFrame, "finish m": api.ErrSessionState, "finish dead": api.ErrSessionState,
		"die dead 1 1": api.ErrMediumDead, "truncate m 999999999": api.ErrMediumRange, "truncate n 999999999": api.ErrMediumRange, "over n 999999999 00": api.ErrMediumRange, "over e 0 00": api.ErrMediumRange,
		"open e": api.ErrReelNone, "open dead": api.ErrMediumDead,
		"play a e 0": api.ErrReelNone, "play a dead 0": api.ErrMediumDead, "play a m 3": api.ErrSessionSeek, "play q m 4": api.ErrSessionSeek,
		"reads e 0 0": api.ErrReelNone, "reads m 3 0": api.ErrSessionSeek, "reads m 4 0": api.ErrSessionSeek, "reads m 0 4": api.ErrViewSlice,
		"remake o e": api.ErrReelNone, "remake o dead": api.ErrMediumDead,
		"render 0 a": api.ErrFarmWorker, "render 17 a b": api.ErrFarmWorker,
		"name 0 0": api.ErrTimecodeRate, "name 2 2160000": api.ErrTimecodeDay, "convert 9 1 0": api.ErrTimecodeRate, "convert 1 4 2073599": api.ErrTimecodeDay,
	}
}

// D1, P2: a line that a call refuses has changed nothing; nor has one that tells a fault, or that a list is refused.
func TestD1RefusedLinesChangeNothing(t *testing.T) {
	commands := map[string]bool{}
	d := stocked(t)
	for range 2 {
		for line, want := range refusals() {
			commands[strings.Fields(line)[0]] = true
			refuses(t, d, line, want)
		}
		play(t, d, "number 4 00:01:00;00 => fault 183 at 9\nprint wrong => fault 193 at 14\nbuild o wrong => fault 193 at 14\nbuild o far => refused 203")
	}
	// No call of these refuses: they ask none, or one that never does, or tell what it refuses.
	for command := range rows() {
		if never := strings.Contains(" config medium revive size list print build number names code ", " "+command+" "); commands[command] == never {
			t.Error("the test has no line of", command)
		}
	}
	unchanged(t, d)
	// What code refuses hangs on the configuration.
	d = stocked(t)
	for _, x := range []struct {
		config string
		want   api.Errno
	}{{"16 15 0 1 0,0,0,0", api.ErrPictureConfig}, {"16 16 9 1 0,0,0,0", api.ErrCap}} {
		does(t, d, "config "+x.config)
		refuses(t, d, "code x a", x.want)
		refuses(t, d, "code q a", x.want)
		refuses(t, d, "write n a", x.want)
		if x.want == api.ErrCap {
			says(t, d, "render 1 a b", "0:00000000 0:00000000")
		} else {
			refuses(t, d, "render 1 a b", x.want)
		}
		does(t, d, "config 16 16 0 1 0,0,0,0")
	}
	unchanged(t, d)
}

// D1: of several errors the answer is the one that is named first: a line that is too long, one that is none, a name, a call's.
func TestD1TheFirstOfSeveralErrors(t *testing.T) {
	d := stocked(t)
	full := func(line string) string { return line + strings.Repeat(" ", 201-len(line)) }
	for line, want := range refusals() {
		// A name that is amiss ahead of the call's error.
		for i, sort := range strings.Fields(rows()[strings.Fields(line)[0]]) {
			for _, name := range missing(sort) {
				if other := with(line, i+1, name); !isOpen(strings.Fields(line)[0]) {
					refuses(t, d, other, api.ErrDeskName)
					refuses(t, d, other+" x", api.ErrDeskLine)
					refuses(t, d, full(other+" x"), api.ErrDeskLong)
				}
			}
		}
		if len(line) < 190 {
			refuses(t, d, full(line), api.ErrDeskLong)
		}
		refuses(t, d, line+"\n", api.ErrDeskLine)
		refuses(t, d, line, want)
	}
	for line, want := range map[string]api.Errno{
		"flat q 65 0 11 0 9999":     api.ErrDeskLine,
		"flat q 0 64 11 0 9999":     api.ErrPlaneShape,
		"flat q 64 64 10 0 9999":    api.ErrPlaneSample,
		"part q nobody 1 1 0 0":     api.ErrDeskName,
		"mix q a nobody 5 0":        api.ErrDeskName,
		"mix nobody nobody a 5":     api.ErrDeskLine,
		"record nobody 9 0 T":       api.ErrDeskName,
		"record nobody 9 0":         api.ErrDeskLine,
		"record m 9 0 T":            api.ErrReelLabel,
		"write e c":                 api.ErrDeskName,
		"write m nobody":            api.ErrDeskName,
		"write cut a":               api.ErrDeskName,
		"finish cut":                api.ErrDeskName,
		"remake m dead":             api.ErrDeskName,
		"remake m m":                api.ErrDeskName,
		"build m wrong":             api.ErrDeskName,
		"build o nobody":            api.ErrDeskName,
		"render 0 nobody":           api.ErrDeskName,
		"render 0 nobody:":          api.ErrDeskLine,
		"render 0 a nobody:x":       api.ErrDeskLine,
		"spoil nobody 999999999 00": api.ErrDeskName,
		"spoil nobody 999999999 0":  api.ErrDeskLine,
		"over nobody 999999999 00":  api.ErrDeskName,
		"pack nobody raw":           api.ErrDeskLine,
		"pack nobody v210":          api.ErrDeskName,
		"apart nobody a b":          api.ErrDeskLine,
	} {
		refuses(t, d, line, want)
	}
	unchanged(t, d)
}

// fill lays things on a desk by a line with a name in it, until there is no room.
func fill(t *testing.T, d *desk.Desk, line string, room, there int) {
	t.Helper()
	for i := there; i < room; i++ {
		does(t, d, fmt.Sprintf(line, fmt.Sprint("full", i)))
	}
	refuses(t, d, fmt.Sprintf(line, "more"), api.ErrDeskName)
}

// D1, What lies on a desk: 16 frames, 16 records, 8 media, 8 lists, and no more; a name that is there may stand for another thing.
func TestD1Room(t *testing.T) {
	d := stocked(t)
	fill(t, d, "flat %s 2 2 10 0 5", 16, 4)
	for _, line := range []string{"flat more 4 2 10 0 7", "ramp more 4 2 10 0 1 1", "noise more 4 2 10 0 7", "part more a 0 0 2 2", "mix more a b 1 2", "look more x", "region more x 0 0 2 2", "play more m 0",
		"flat more 0 2 10 0 7", "part more a 1 0 2 2", "mix more a c 1 2", "look more none", "play more m 9", "flat more 0 2 10 0 9999"} {
		refuses(t, d, line, api.ErrDeskName)
	}
	refuses(t, d, "flat more 65 2 10 0 7", api.ErrDeskLine)
	refuses(t, d, "look more nobody", api.ErrDeskName)
	play(t, d, "flat full4 4 2 10 0 7\nramp full5 4 2 10 0 1 1\nnoise full6 4 2 10 0 7\npart full7 a 0 0 2 2\nmix full8 a b 1 2\nlook full9 x\nregion full10 x 0 0 2 2\nplay full11 m 0\ndot full12 0 0 0 9")
	fill(t, d, "code %s c", 16, 6)
	for _, line := range []string{"code more a", "again more x", "again more none"} {
		refuses(t, d, line, api.ErrDeskName)
	}
	play(t, d, "code full6 a\nagain full7 x\nagain x x")
	fill(t, d, "medium %s", 8, 5)
	for _, line := range []string{"medium more", "remake more m", "build more l", "build more far", "build more wrong", "remake more e", "medium full5", "remake full5 m", "build full5 l"} {
		refuses(t, d, line, api.ErrDeskName)
	}
	fill(t, d, "list %s x", 8, 3)
	refuses(t, d, "list more list 25 \"t\"", api.ErrDeskName)
	play(t, d, "list full4 y\nlist l # more\nprint l")
	says(t, d, "names", "frames a b c d full10 full11 full12 full13 full14 full15 full4 full5 full6 full7 full8 full9; records bare full10 full11 full12 full13 full14 full15 full6 full7 full8 full9 hurt none x y z; media cut dead e full5 full6 full7 m n; lists far full3 full4 full5 full6 full7 l wrong")
	// Desks from the beginning on, filled in the other ways.
	for _, x := range []struct {
		first, line string
		room, there int
	}{
		{"flat a 4 2 10 0 7", "ramp %s 4 2 10 0 1 1", 16, 1}, {"flat a 4 2 10 0 7", "noise %s 4 2 10 0 1", 16, 1}, {"flat a 4 2 10 0 7", "part %s a 0 0 2 2", 16, 1},
		{"flat a 4 2 10 0 7", "mix %s a a 1 2", 16, 1}, {"flat a 4 2 10 0 7\ncode x a", "look %s x", 16, 1}, {"flat a 4 2 10 0 7\ncode x a", "region %s x 0 0 2 2", 16, 1},
		{"flat a 4 2 10 0 7\nmedium m\nrecord m 2 0 T\nwrite m a", "play %s m 0", 16, 1}, {"flat a 4 2 10 0 7\ncode x a", "again %s x", 16, 1},
		{"medium m\nrecord m 2 0 T", "remake %s m", 8, 1}, {"list l list 25 \"t\"", "build %s l", 8, 0},
	} {
		d := newDesk(t)
		play(t, d, x.first)
		fill(t, d, x.line, x.room, x.there)
	}
}
