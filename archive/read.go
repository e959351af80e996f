package archive

import (
	"chronicle/api"
	"chronicle/delta"
	"chronicle/event"
	"chronicle/schema"
	"chronicle/wire"
)

// The most bytes that an event without its body has in any version (its kind, task, time and tags), and the change of a body.
const (
	mostBare   = 2 + (2 + api.MaxText) + 9 + api.MaxTags*(2+api.MaxText)
	mostChange = 2 + api.MaxText
)

// reader takes what it reads off the front of what is left of a file. Where it cannot go on nothing is left, so that no more of it is read.
type reader struct {
	rest  string
	cut   bool // the file ends ahead of the end of what was to be read
	wrong bool // no file has what stands there
}

// read tells the events of a file's whole entries, and how many bytes those have. What is cut off behind them is no fault.
func read(file string) (l []api.Event, whole int, ok bool) {
	r := &reader{rest: file}
	for r.rest != "" {
		more := r.entry(l)
		if r.stopped() {
			break
		}
		l, whole = more, len(file)-len(r.rest)
	}
	return l, whole, !r.wrong
}

// entry reads an entry and puts its events behind l.
func (r *reader) entry(l []api.Event) []api.Event {
	version := r.number(1, api.Newest)
	n := r.number(1, api.MaxEvents-len(l))
	for range n {
		e := r.bare(version)
		e.Body = r.body(lastBody(l))
		l = append(l, e)
	}
	return l
}

func (r *reader) bare(version int) api.Event {
	s := r.text(mostBare)
	if r.stopped() {
		return api.Event{}
	}
	e, errno := schema.Decode(version, s)
	if errno != api.OK || e.Body != "" {
		r.fail()
	}
	return e
}

func (r *reader) body(old string) string {
	change := r.text(mostChange)
	if r.stopped() {
		return ""
	}
	body, errno := delta.Apply(old, change)
	if errno != api.OK || !event.IsLine(body) {
		r.fail()
	}
	return body
}

// text is a piece of the file.
func (r *reader) text(most int) string {
	n := r.number(0, most)
	if n > len(r.rest) {
		r.end()
		return ""
	}
	text := r.rest[:n]
	r.rest = r.rest[n:]
	return text
}

func (r *reader) number(least int, most int) int {
	if r.stopped() {
		return 0
	}
	n, rest, whole := wire.ReadNumber(r.rest)
	if !whole {
		r.cutNumber(most)
		return 0
	}
	if n < least || n > most {
		r.fail()
		return 0
	}
	r.rest = rest
	return n
}

// cutNumber asks whether more bytes might have made a number of what is left: the least that they could have been is a single 1.
func (r *reader) cutNumber(most int) {
	n, _, ok := wire.ReadNumber(r.rest + "\x01")
	if !ok || n > most {
		r.fail()
		return
	}
	r.end()
}

func (r *reader) stopped() bool {
	return r.cut || r.wrong
}

func (r *reader) end() {
	r.rest = ""
	r.cut = true
}

func (r *reader) fail() {
	r.rest = ""
	r.wrong = true
}
