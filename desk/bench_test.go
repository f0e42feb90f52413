package desk_test

import (
	"encoding/hex"
	"errors"
	"fmt"
	"maps"
	"regexp"
	"slices"
	"strconv"
	"strings"

	"dailies/api"
	"dailies/conform"
	"dailies/crc"
	"dailies/cuts"
	"dailies/farm"
	"dailies/medium"
	"dailies/picture"
	"dailies/pixel"
	"dailies/plane"
	"dailies/reel"
	"dailies/session"
	"dailies/timecode"
	"dailies/view"
)

// rows are the chapter's table: of each command the sorts of its fields. F, R, M and L are frames, records, media and lists that must be there; with a + they may be, with a ! they must not; M* has a recorder. N is a number, S a side, A a flag, X hex, K a format, T any field; the last one may be G.., rungs, J.., jobs, or .., the rest.
func rows() map[string]string {
	return map[string]string{
		"flat": "F+ S S N A N", "ramp": "F+ S S N A N N", "noise": "F+ S S N A N",
		"dot": "F N N N N", "part": "F+ F N N N N", "mix": "F+ F F N N",
		"show": "F N N N N N", "apart": "F F", "error": "F F N", "pack": "F K",
		"config": "N N N N G..", "code": "R+ F", "head": "R", "look": "F+ R", "slice": "R N",
		"region": "F+ R N N N N", "again": "R+ R", "spoil": "R N X",
		"medium": "M!", "record": "M N N ..", "goon": "M", "write": "M* F", "finish": "M*",
		"die": "M N N", "revive": "M", "truncate": "M N", "over": "M N X", "size": "M", "open": "M",
		"play": "F+ M N", "reads": "M N N", "remake": "M! M",
		"list": "L+ ..", "print": "L", "build": "M! L", "render": "N J..",
		"name": "N N", "number": "N T", "convert": "N N N", "names": "",
	}
}

// patterns are the forms of fields.
func patterns() map[string]string {
	name, number := `[a-z][a-z0-9-]{0,15}`, `(0|[1-9][0-9]{0,8})`
	rung, job := number+`(,`+number+`){3}`, name+`(:`+number+`)?`
	return map[string]string{
		"F": name, "R": name, "M": name, "L": name, "N": number, "T": `[^ ]+`,
		"S": `([0-9]|[1-5][0-9]|6[0-4])`, "A": `[01]`, "X": `([0-9a-f][0-9a-f])+`, "K": `(planar|v210)`,
		"G": rung + `( ` + rung + `){0,15}`, "J": job + `( ` + job + `){0,15}`, "": `.+`,
	}
}

// forms are the whole lines of all commands, with one blank between each two fields.
func forms() map[string]*regexp.Regexp {
	all := map[string]*regexp.Regexp{}
	for command, row := range rows() {
		form := command
		for _, sort := range strings.Fields(row) {
			form += " " + patterns()[strings.TrimRight(sort, "+!*.")]
		}
		all[command] = regexp.MustCompile(`(?s)^` + form + `$`)
	}
	return all
}

// bench is a desk by the chapter's words, which asks the layers below.
type bench struct {
	forms     map[string]*regexp.Regexp
	frames    map[string]api.Frame
	records   map[string][]byte
	media     map[string]*medium.Medium
	recorders map[string]*session.Recorder
	lists     map[string]string
	config    api.Config
}

func newBench() *bench {
	return &bench{
		forms: forms(), frames: map[string]api.Frame{}, records: map[string][]byte{}, media: map[string]*medium.Medium{},
		recorders: map[string]*session.Recorder{}, lists: map[string]string{},
		config: api.Config{SliceW: 32, SliceH: 32, Ladder: []api.Rung{{0, 0, 0, 0}}},
	}
}

func (b *bench) do(line string) (string, api.Errno) {
	if len(line) > 200 {
		return "", api.ErrDeskLong
	}
	if strings.Contains(line, "\n") {
		return "", api.ErrDeskLine
	}
	one := regexp.MustCompile(` +`).ReplaceAllString(strings.Trim(line, " "), " ")
	if one == "" || one[0] == '#' {
		return "", api.OK
	}
	fields := strings.Split(one, " ")
	form := b.forms[fields[0]]
	if form == nil || !form.MatchString(one) {
		return "", api.ErrDeskLine
	}
	if !b.named(strings.Fields(rows()[fields[0]]), fields[1:]) {
		return "", api.ErrDeskName
	}
	text, e := b.does(fields[0], fields[1:])
	if e != api.OK {
		return "", e
	}
	return text, api.OK
}

// has tells whether there is a thing of a sort, how many there are, and for how many there is room.
func (b *bench) has(sort byte, name string) (bool, int, int) {
	there, count, room := false, 0, 16
	switch sort {
	case 'F':
		_, there = b.frames[name]
		count = len(b.frames)
	case 'R':
		_, there = b.records[name]
		count = len(b.records)
	case 'M':
		_, there = b.media[name]
		count, room = len(b.media), 8
	case 'L':
		_, there = b.lists[name]
		count, room = len(b.lists), 8
	}
	return there, count, room
}

// named tells whether all names are there that must be, and none that must not, and whether there is room.
func (b *bench) named(sorts, fields []string) bool {
	for i, sort := range sorts {
		if sort == "J.." {
			for _, field := range fields[i:] {
				if _, there := b.frames[strings.Split(field, ":")[0]]; !there {
					return false
				}
			}
		}
		if !strings.ContainsAny(sort, "FRML") {
			continue
		}
		there, count, room := b.has(sort[0], fields[i])
		_, recorded := b.recorders[fields[i]]
		switch sort[1:] {
		case "":
			if !there {
				return false
			}
		case "*":
			if !there || !recorded {
				return false
			}
		case "+":
			if !there && count == room {
				return false
			}
		case "!":
			if there || count == room {
				return false
			}
		}
	}
	return true
}

func num(s string) int {
	n, err := strconv.Atoi(s)
	if err != nil {
		panic(err)
	}
	return n
}

func unhex(s string) []byte {
	b, err := hex.DecodeString(s)
	if err != nil {
		panic(err)
	}
	return b
}

func rungIn(s string) api.Rung {
	var r api.Rung
	if _, err := fmt.Sscanf(s, "%d,%d,%d,%d", &r[0], &r[1], &r[2], &r[3]); err != nil {
		panic(err)
	}
	return r
}

func rungOut(r api.Rung) string { return fmt.Sprintf("%d,%d,%d,%d", r[0], r[1], r[2], r[3]) }

func shapeOut(s api.Shape) string {
	alpha := 0
	if s.Alpha {
		alpha = 1
	}
	return fmt.Sprint(s.Width, s.Height, s.Depth, alpha)
}

func marksOut(marks []api.Mark) string {
	text := ""
	for _, m := range marks {
		text += fmt.Sprint(int(m))
	}
	return text
}

// wrapped is the number that an error wraps.
func wrapped(err error) api.Errno {
	e := api.OK
	errors.As(err, &e)
	return e
}

func faultOut(err error) string {
	f := err.(*api.Fault)
	return fmt.Sprintf("fault %d at %d", int(f.Err), f.At)
}

// numbers are fields that are all numbers.
func numbers(fields []string) []int {
	var list []int
	for _, f := range fields {
		list = append(list, num(f))
	}
	return list
}

func rectIn(fields []string) api.Rect {
	n := numbers(fields)
	return api.Rect{X: n[0], Y: n[1], W: n[2], H: n[3]}
}

// made is what flat, ramp and noise make.
func made(command string, fields []string) (api.Frame, api.Errno) {
	n := numbers(fields)
	s := api.Shape{Width: n[0], Height: n[1], Depth: n[2], Alpha: n[3] == 1}
	if e := plane.Shaped(s); e != api.OK {
		return api.Frame{}, e
	}
	top := map[int]int{10: 1024, 12: 4096}[s.Depth]
	if command == "flat" && n[4] >= top {
		return api.Frame{}, api.ErrPlaneSample
	}
	f := api.Frame{Shape: s}
	state := uint64(n[4])
	for p := range map[bool]int{false: 3, true: 4}[s.Alpha] {
		width := s.Width
		if p == 1 || p == 2 {
			width = (s.Width + 1) / 2
		}
		var samples []uint16
		for y := range s.Height {
			for x := range width {
				v := n[4]
				switch command {
				case "ramp":
					v = (n[4]*x + n[5]*y + p) % top
				case "noise":
					state = (1103515245*state + 12345) & (1<<31 - 1)
					v = int(state>>16) % top
				}
				samples = append(samples, uint16(v))
			}
		}
		f.Planes = append(f.Planes, samples)
	}
	return f, api.OK
}

func (b *bench) layFrame(name string, f api.Frame, e api.Errno) (string, api.Errno) {
	if e == api.OK {
		b.frames[name] = f
	}
	return "frame " + shapeOut(f.Shape), e
}

func (b *bench) laySeen(name string, f api.Frame, r api.Report, e api.Errno) (string, api.Errno) {
	text, e := b.layFrame(name, f, e)
	return text + " marks " + marksOut(r.Marks), e
}

func (b *bench) layRecord(name string, x api.Coded, e api.Errno) (string, api.Errno) {
	if e == api.OK {
		b.records[name] = x.Bytes
	}
	return fmt.Sprintf("record %d step %d rung %s", len(x.Bytes), x.Step, rungOut(x.Rung)), e
}

func (b *bench) layMedium(name string, m *medium.Medium, e api.Errno) api.Errno {
	if e == api.OK {
		b.media[name] = m
	}
	return e
}

// does is what a command does whose fields and names are right.
func (b *bench) does(command string, f []string) (string, api.Errno) {
	switch command {
	case "flat", "ramp", "noise", "dot", "part", "mix":
		return b.makes(command, f)
	case "show", "apart", "error", "pack":
		return b.tells(command, f)
	case "config", "code", "head", "look", "slice", "region", "again", "spoil":
		return b.codes(command, f)
	case "medium", "record", "goon", "write", "finish":
		return b.lays(command, f)
	case "die", "revive", "truncate", "over", "size", "open":
		return b.befalls(command, f)
	case "play", "reads", "remake":
		return b.plays(command, f)
	case "list", "print", "build", "render":
		return b.cuts(command, f)
	}
	return b.says(command, f)
}

func (b *bench) makes(command string, f []string) (string, api.Errno) {
	switch command {
	case "dot":
		one := api.Block{W: 1, H: 1, Samples: []uint16{uint16(min(num(f[4]), 65535))}}
		g, e := plane.Paste(b.frames[f[0]], num(f[1]), num(f[2]), num(f[3]), one)
		return b.layFrame(f[0], g, e)
	case "part":
		g, e := plane.Cut(b.frames[f[1]], rectIn(f[2:]))
		return b.layFrame(f[0], g, e)
	case "mix":
		g, e := conform.Mix(b.frames[f[1]], b.frames[f[2]], num(f[3]), num(f[4]))
		return b.layFrame(f[0], g, e)
	}
	g, e := made(command, f[1:])
	return b.layFrame(f[0], g, e)
}

func (b *bench) tells(command string, f []string) (string, api.Errno) {
	x, y := b.frames[f[0]], b.frames[f[1]]
	switch command {
	case "show":
		block, e := plane.Crop(x, num(f[1]), rectIn(f[2:]))
		text := ""
		for i, v := range block.Samples {
			switch {
			case i == 0:
			case i%block.W == 0:
				text += " / "
			default:
				text += " "
			}
			text += fmt.Sprint(v)
		}
		return text, e
	case "apart":
		r, e := plane.Apart(x, y)
		return rungOut(r), e
	case "error":
		v, e := plane.Error(x, y, num(f[2]))
		return strconv.FormatFloat(v, 'g', -1, 64), e
	}
	pack := map[string]func(api.Frame) ([]byte, api.Errno){"planar": pixel.PackPlanar, "v210": pixel.PackV210}[f[1]]
	bytes, e := pack(x)
	return fmt.Sprintf("%d bytes %08x", len(bytes), crc.Sum(bytes)), e
}

func (b *bench) codes(command string, f []string) (string, api.Errno) {
	switch command {
	case "config":
		n := numbers(f[:4])
		b.config = api.Config{SliceW: n[0], SliceH: n[1], Cap: n[2], Parity: n[3]}
		for _, r := range f[4:] {
			b.config.Ladder = append(b.config.Ladder, rungIn(r))
		}
		return "ok", api.OK
	case "code":
		x, e := picture.Encode(b.frames[f[1]], b.config)
		return b.layRecord(f[0], x, e)
	case "head":
		h, e := picture.Head(b.records[f[0]])
		return fmt.Sprintf("%s slices %d parity %d rung %s length %d", shapeOut(h.Shape), h.Slices, h.Parity, rungOut(h.Rung), h.Length), e
	case "look":
		g, r, e := view.Whole(view.Of(b.records[f[1]]), 4194304)
		return b.laySeen(f[0], g, r, e)
	case "slice":
		blocks, r, e := view.Slice(view.Of(b.records[f[0]]), num(f[1]), 4194304)
		text := "marks " + marksOut(r.Marks) + " sums"
		for _, block := range blocks {
			sum := 0
			for _, v := range block.Samples {
				sum += int(v)
			}
			text += fmt.Sprint(" ", sum)
		}
		return text, e
	case "region":
		g, r, e := view.Region(view.Of(b.records[f[1]]), rectIn(f[2:]), 4194304)
		return b.laySeen(f[0], g, r, e)
	case "again":
		g, r, e := view.Whole(view.Of(b.records[f[1]]), 4194304)
		if e != api.OK {
			return "", e
		}
		x, e := picture.Encode(g, picture.Pinned(r.Head))
		return b.layRecord(f[0], x, e)
	}
	at, hurt := num(f[1]), unhex(f[2])
	was := b.records[f[0]]
	if at+len(hurt) > len(was) {
		return "", api.ErrMediumRange
	}
	b.records[f[0]] = slices.Concat(was[:at], hurt, was[at+len(hurt):])
	return "ok", api.OK
}

func (b *bench) lays(command string, f []string) (string, api.Errno) {
	m, r := b.media[f[0]], b.recorders[f[0]]
	switch command {
	case "medium":
		return "ok", b.layMedium(f[0], medium.New(), api.OK)
	case "record", "goon":
		fresh, e := session.Record(m)
		if e != api.OK {
			return "", e
		}
		if command == "record" {
			e = fresh.Open(api.Label{Title: strings.Join(f[3:], " "), Rate: api.Rate(num(f[1])), Start: num(f[2])})
		} else {
			e = fresh.Continue()
		}
		if e == api.OK {
			b.recorders[f[0]] = fresh
		}
		return "ok", e
	case "write":
		if e := r.Set(b.config); e != api.OK {
			return "", e
		}
		w, e := r.Write(b.frames[f[1]])
		return fmt.Sprintf("%d at %d length %d step %d rung %s", w.Receipt.Number, w.Receipt.At, w.Receipt.Length, w.Step, rungOut(w.Rung)), e
	}
	return "ok", r.Finish()
}

func (b *bench) befalls(command string, f []string) (string, api.Errno) {
	m := b.media[f[0]]
	e := api.OK
	switch command {
	case "die":
		e = m.Arm(num(f[1]), num(f[2]))
	case "revive":
		m.Revive()
	case "truncate":
		if e = m.Truncate(num(f[1])); e == api.OK {
			delete(b.recorders, f[0])
		}
	case "over":
		if e = m.Overwrite(num(f[1]), unhex(f[2])); e == api.OK {
			delete(b.recorders, f[0])
		}
	case "size":
		return fmt.Sprintf("%d bytes %08x", m.Size(), crc.Sum(m.Bytes())), api.OK
	case "open":
		r, e := reel.Open(m)
		if e != api.OK {
			return "", e
		}
		done := map[bool]int{true: 1}[r.Finished()]
		l := r.Label()
		return fmt.Sprintf("frames %d finished %d rate %d start %d title %s", r.Count(), done, int(l.Rate), l.Start, l.Title), api.OK
	}
	return "ok", e
}

func (b *bench) plays(command string, f []string) (string, api.Errno) {
	from := map[string]int{"play": 1, "reads": 0, "remake": 1}[command]
	m := b.media[f[from]]
	p, e := session.Play(m, 4194304)
	if e != api.OK {
		return "", e
	}
	if command == "remake" {
		to := medium.New()
		n, e := p.Regenerate(to)
		return fmt.Sprint(n, " frames"), b.layMedium(f[0], to, e)
	}
	if e := p.Seek(num(f[from+1])); e != api.OK {
		return "", e
	}
	if command == "play" {
		g, r, e := p.Next()
		return b.laySeen(f[0], g, r, e)
	}
	m.Forget()
	_, _, e = p.Slice(num(f[2]))
	text := "reads"
	for _, span := range m.Log() {
		text += fmt.Sprintf(" %d+%d", span.At, span.Length)
	}
	return text, e
}

func (b *bench) cuts(command string, f []string) (string, api.Errno) {
	switch command {
	case "list":
		b.lists[f[0]] += strings.Join(f[1:], " ") + "\n"
		return "ok", api.OK
	case "render":
		return b.renders(f)
	}
	l, err := cuts.Parse(b.lists[f[len(f)-1]])
	if err != nil {
		return faultOut(err), api.OK
	}
	if command == "print" {
		text, err := cuts.Print(l)
		return strings.ReplaceAll(text, "\n", "|"), wrapped(err)
	}
	reels := map[string]*reel.Reel{}
	for name, m := range b.media {
		if r, e := reel.Open(m); e == api.OK {
			reels[name] = r
		}
	}
	to := medium.New()
	built, err := conform.Build(l, reels, b.config, 4194304, to)
	if err != nil {
		return fmt.Sprint("refused ", int(wrapped(err))), api.OK
	}
	return fmt.Sprintf("frames %d copied %d mixed %d", built.Frames, built.Copied, built.Mixed), b.layMedium(f[0], to, api.OK)
}

func (b *bench) renders(f []string) (string, api.Errno) {
	var frames []api.Frame
	var fails []int
	for _, job := range f[1:] {
		parts := strings.Split(job+":0", ":")
		frames = append(frames, b.frames[parts[0]])
		fails = append(fails, num(parts[1]))
	}
	list, e := farm.Render(frames, b.config, num(f[0]), fails)
	var texts []string
	for _, x := range list {
		texts = append(texts, fmt.Sprintf("%d:%08x", len(x.Bytes), crc.Sum(x.Bytes)))
	}
	return strings.Join(texts, " "), e
}

func (b *bench) says(command string, f []string) (string, api.Errno) {
	switch command {
	case "name":
		return timecode.Name(api.Rate(num(f[0])), num(f[1]))
	case "number":
		n, err := timecode.Number(api.Rate(num(f[0])), f[1])
		if err != nil {
			return faultOut(err), api.OK
		}
		return fmt.Sprint(n), api.OK
	case "convert":
		n, e := timecode.Convert(api.Rate(num(f[0])), api.Rate(num(f[1])), num(f[2]))
		return fmt.Sprint(n), e
	}
	text := strings.Join(append([]string{"frames"}, slices.Sorted(maps.Keys(b.frames))...), " ")
	text += strings.Join(append([]string{"; records"}, slices.Sorted(maps.Keys(b.records))...), " ")
	text += strings.Join(append([]string{"; media"}, slices.Sorted(maps.Keys(b.media))...), " ")
	return text + strings.Join(append([]string{"; lists"}, slices.Sorted(maps.Keys(b.lists))...), " "), api.OK
}
