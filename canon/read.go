package canon

import (
	"slices"
	"strconv"
	"strings"

	"chronicle/api"
	"chronicle/event"
)

const (
	blanks = " \n\r\t"
	digits = "0123456789"
)

// names are those that each event has, rising.
var names = [...]string{"body", "kind", "tags", "task", "time"}

// reader takes what it reads off the front of what is left of a text. Where the text is wrong nothing is left, so that no more of it is read, and wrong stays set, so that it is asked but once.
type reader struct {
	rest  string
	wrong bool
}

// read reads events of all numbers, texts and lists of tags, for the bounds are not the text's business.
func read(text string) ([]api.Event, bool) {
	r := &reader{rest: text}
	l := readList(r, r.event)
	r.skipBlanks()
	return l, !r.wrong && r.rest == ""
}

func readList[T any](r *reader, one func() T) []T {
	r.need('[')
	if r.take(']') {
		return nil
	}
	l := []T{one()}
	for r.take(',') {
		l = append(l, one())
	}
	r.need(']')
	return l
}

func (r *reader) event() api.Event {
	var e api.Event
	var had [len(names)]string
	r.need('{')
	for i := range had {
		if i > 0 {
			r.need(',')
		}
		had[i] = r.text()
		r.need(':')
		r.field(had[i], &e)
	}
	r.need('}')
	slices.Sort(had[:])
	if had != names {
		r.fail()
	}
	return e
}

func (r *reader) field(name string, e *api.Event) {
	switch name {
	case "body":
		e.Body = r.text()
	case "kind":
		e.Kind = r.kind()
	case "tags":
		e.Tags = readList(r, r.text)
	case "task":
		e.Task = r.text()
	case "time":
		e.Time = r.number()
	default:
		r.fail()
	}
}

func (r *reader) kind() int {
	word := r.text()
	for i, k := range kinds {
		if word == k {
			return api.Begun + i
		}
	}
	r.fail()
	return 0
}

func (r *reader) number() int {
	r.skipBlanks()
	rest := strings.TrimLeft(r.rest, digits)
	written := r.rest[:len(r.rest)-len(rest)]
	r.rest = rest
	if written == "" || written[0] == '0' && written != "0" {
		r.fail()
		return 0
	}
	n := 0
	for i := range len(written) {
		// A number may be of any length, and would wrap round: those beyond an event's bound are all one.
		n = min(10*n+int(written[i]-'0'), api.MaxTime+1)
	}
	return n
}

// text makes a text of its own, no piece of what is read.
func (r *reader) text() string {
	var b strings.Builder
	r.need('"')
	for r.rest != "" && r.rest[0] != '"' {
		b.WriteByte(r.quoted())
	}
	r.need('"')
	return b.String()
}

// quoted reads what stands in quotes for one byte.
func (r *reader) quoted() byte {
	c := r.next()
	if c == '\\' {
		return r.escaped()
	}
	return r.plain(c)
}

func (r *reader) escaped() byte {
	switch c := r.next(); c {
	case '"', '\\', '/':
		return c
	case 'u':
		return r.plain(r.coded())
	}
	r.fail()
	return 0
}

func (r *reader) coded() byte {
	const zeros, all = 2, 4
	if len(r.rest) < all || r.rest[:zeros] != "00" {
		r.fail()
		return 0
	}
	c, err := strconv.ParseUint(r.rest[zeros:all], 16, 8)
	if err != nil {
		r.fail()
		return 0
	}
	r.rest = r.rest[all:]
	return byte(c)
}

func (r *reader) plain(c byte) byte {
	if !event.IsPlain(c) {
		r.fail()
		return 0
	}
	return c
}

func (r *reader) next() byte {
	if r.rest == "" {
		r.fail()
		return 0
	}
	c := r.rest[0]
	r.rest = r.rest[1:]
	return c
}

// take takes a sign, if it is the next one.
func (r *reader) take(sign byte) bool {
	r.skipBlanks()
	if r.rest == "" || r.rest[0] != sign {
		return false
	}
	r.rest = r.rest[1:]
	return true
}

func (r *reader) need(sign byte) {
	if !r.take(sign) {
		r.fail()
	}
}

func (r *reader) skipBlanks() {
	r.rest = strings.TrimLeft(r.rest, blanks)
}

func (r *reader) fail() {
	r.rest = ""
	r.wrong = true
}
