package desk

import "dailies/api"

// deed does what a line says, and tells the answer.
type deed func() string

// command is the first field of a line, and how the fields behind it are read. What it does, it does by the deed, when all fields have been read: so a line with a field that is none has done nothing.
type command struct {
	word string
	read func(*Desk, *line) deed
}

// commands are all that there are.
func commands() []command {
	return []command{
		{"flat", (*Desk).flat},
		{"ramp", (*Desk).ramp},
		{"noise", (*Desk).noise},
		{"dot", (*Desk).dot},
		{"part", (*Desk).part},
		{"mix", (*Desk).mix},
		{"show", (*Desk).show},
		{"apart", (*Desk).apart},
		{"error", (*Desk).meanSquare},
		{"pack", (*Desk).pack},
		{"config", (*Desk).config},
		{"code", (*Desk).code},
		{"head", (*Desk).head},
		{"look", (*Desk).look},
		{"slice", (*Desk).slice},
		{"region", (*Desk).region},
		{"again", (*Desk).again},
		{"spoil", (*Desk).spoil},
		{"medium", (*Desk).empty},
		{"record", (*Desk).record},
		{"goon", (*Desk).goOn},
		{"write", (*Desk).write},
		{"finish", (*Desk).finish},
		{"die", (*Desk).die},
		{"revive", (*Desk).revive},
		{"truncate", (*Desk).truncate},
		{"over", (*Desk).over},
		{"size", (*Desk).size},
		{"open", (*Desk).open},
		{"play", (*Desk).play},
		{"reads", (*Desk).reads},
		{"remake", (*Desk).remake},
		{"list", (*Desk).list},
		{"print", (*Desk).print},
		{"build", (*Desk).build},
		{"render", (*Desk).render},
		{"name", (*Desk).name},
		{"number", (*Desk).number},
		{"convert", (*Desk).convert},
		{"names", (*Desk).names},
	}
}

// take does a line of these fields. What it lacks, and what a call refuses, is given up by a panic with the error's number, so that neither the fields nor the deeds must hand it on.
func (d *Desk) take(fields []string) (answer string, e api.Errno) {
	defer func() {
		if given := recover(); given != nil {
			e = given.(api.Errno)
		}
	}()
	does := d.read(&line{fields: fields})
	return does(), api.OK
}

// read finds a line's command, and has it read what stands behind.
func (d *Desk) read(l *line) deed {
	word := l.next()
	for _, c := range commands() {
		if c.word == word {
			does := c.read(d, l)
			l.end()
			return does
		}
	}
	panic(api.ErrDeskLine)
}

// must gives the line up, if a call refused.
func must(e api.Errno) {
	if e != api.OK {
		panic(e)
	}
}

// right is what a call answered, if it did not refuse.
func right[T any](v T, e api.Errno) T {
	must(e)
	return v
}
