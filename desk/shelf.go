package desk

import (
	"maps"
	"slices"
)

// shelf has the things of one kind, by their names.
type shelf[T any] struct {
	room   int // for so many
	things map[string]T
}

func newShelf[T any](room int) shelf[T] { return shelf[T]{room: room, things: map[string]T{}} }

// known is the name that a line has next, of a thing that must be there.
func (s shelf[T]) known(l *line) string { return s.find(l, l.next()) }

// thing is the one of the name that a line has next; the zero value, if there is none.
func (s shelf[T]) thing(l *line) T { return s.things[s.known(l)] }

// find is a text that is a name; the line has it of a thing that must be there.
func (s shelf[T]) find(l *line, text string) string {
	name := nameOf(text)
	if _, there := s.things[name]; !there {
		l.amiss = true
	}
	return name
}

// place is the name that a line has next, for a thing that will lie there, whatever lay there.
func (s shelf[T]) place(l *line) string {
	name := nameOf(l.next())
	if _, there := s.things[name]; !there && len(s.things) == s.room {
		l.amiss = true
	}
	return name
}

// vacant is the name that a line has next, for a thing that will lie there, where none must be.
func (s shelf[T]) vacant(l *line) string {
	name := s.place(l)
	if _, there := s.things[name]; there {
		l.amiss = true
	}
	return name
}

func (s shelf[T]) lay(name string, x T) { s.things[name] = x }

// names are all, rising.
func (s shelf[T]) names() []string { return slices.Sorted(maps.Keys(s.things)) }
