// Package schema: events as bytes, in versions: see DOC.md.
package schema

import (
	"strings"

	"chronicle/api"
	"chronicle/event"
	"chronicle/wire"
)

// The fields' tags in versions 2 and 3.
const (
	kindField = 1
	taskField = 2
	timeField = 3
	bodyField = 4
	tagField  = 5
)

// letters are version 1's kinds, Begun first.
const letters = "bdf"

// Encode writes an event in a version (P3).
func Encode(version int, e api.Event) (string, api.Errno) {
	if !event.IsVersion(version) {
		return "", api.ErrVersion
	}
	if !event.GoesInto(version, e) {
		return "", api.ErrValue
	}
	if version == 1 {
		return writeLetter(e), api.OK
	}
	return writeFields(version, e), api.OK
}

// Decode reads an event that was written in a version (P4).
func Decode(version int, s string) (api.Event, api.Errno) {
	if !event.IsVersion(version) {
		return api.Event{}, api.ErrVersion
	}
	e, ok := read(version, s)
	if !ok {
		return api.Event{}, api.ErrData
	}
	// Its texts are still pieces of s.
	return event.Copy(e), api.OK
}

func writeLetter(e api.Event) string {
	i := e.Kind - api.Begun
	return letters[i:i+1] + wire.Text(e.Task) + e.Body
}

func writeFields(version int, e api.Event) string {
	var b strings.Builder
	put := func(tag int, has string) {
		b.WriteString(wire.Number(tag))
		b.WriteString(has)
	}
	put(kindField, wire.Number(e.Kind-kindShift(version)))
	put(taskField, wire.Text(e.Task))
	if e.Time != 0 {
		put(timeField, wire.Number(e.Time))
	}
	if e.Body != "" {
		put(bodyField, wire.Text(e.Body))
	}
	for _, tag := range e.Tags {
		put(tagField, wire.Text(tag))
	}
	return b.String()
}

// kindShift tells how far below its kind a version writes it: version 2 counted them from 0.
func kindShift(version int) int {
	if version == 2 {
		return 1
	}
	return 0
}

func read(version int, s string) (api.Event, bool) {
	if version == 1 {
		return readLetter(s)
	}
	e := readFields(version, s)
	// What the document takes is what Encode answers, so that is what is asked.
	again, errno := Encode(version, e)
	return e, errno == api.OK && again == s
}

func readLetter(s string) (api.Event, bool) {
	if s == "" {
		return api.Event{}, false
	}
	task, body, ok := wire.ReadText(s[1:])
	if !ok {
		return api.Event{}, false
	}
	e := api.Event{Kind: strings.IndexByte(letters, s[0]) + api.Begun, Task: task, Body: body}
	if e.Task == "" {
		// Encode writes no such thing, but the first writers did.
		e.Task = event.NoTask
		return e, event.Is(e)
	}
	return e, event.GoesInto(1, e)
}

// readFields reads every answer of Encode; of other bytes it may make anything, for read asks Encode afterwards.
func readFields(version int, s string) api.Event {
	var e api.Event
	f := fields{s}
	if f.next(kindField) {
		e.Kind = f.number() + kindShift(version)
	}
	if f.next(taskField) {
		e.Task = f.text()
	}
	if f.next(timeField) {
		e.Time = f.number()
	}
	if f.next(bodyField) {
		e.Body = f.text()
	}
	for len(e.Tags) < api.MaxTags && f.next(tagField) {
		e.Tags = append(e.Tags, f.text())
	}
	return e
}

// fields are taken off the front of what is left of them.
type fields struct {
	rest string
}

func (f *fields) next(tag int) bool {
	rest, found := strings.CutPrefix(f.rest, wire.Number(tag))
	f.rest = rest
	return found
}

func (f *fields) number() int {
	n, rest, _ := wire.ReadNumber(f.rest)
	f.rest = rest
	return n
}

func (f *fields) text() string {
	text, rest, _ := wire.ReadText(f.rest)
	f.rest = rest
	return text
}
