package archive

import (
	"strings"

	"chronicle/api"
	"chronicle/delta"
	"chronicle/schema"
	"chronicle/wire"
)

// A file is nothing but entries, one for each Append that had an event: the version and how many events there are, as numbers; then for each event two texts within bytes: the event without its body, as its version writes it, and what has changed in the body since the event before (since nothing, for the first of all). So an entry tells by itself where it ends, and a file that is cut off keeps those that are whole.

// write tells the entry of events that go into the version, behind an event with that body.
func write(version int, body string, l ...api.Event) string {
	var b strings.Builder
	b.WriteString(wire.Number(version))
	b.WriteString(wire.Number(len(l)))
	for _, e := range l {
		// Neither call can fail: bodies are short, and an event goes into a version whatever its body is.
		change, _ := delta.Make(body, e.Body)
		body = e.Body
		e.Body = ""
		bare, _ := schema.Encode(version, e)
		b.WriteString(wire.Text(bare))
		b.WriteString(wire.Text(change))
	}
	return b.String()
}

// writeAnew tells a file of events. Each has an entry of its own, so that a file that is cut off keeps as many as may be.
func writeAnew(l []api.Event) []byte {
	var file []byte
	for i, e := range l {
		file = append(file, write(api.Newest, lastBody(l[:i]), e)...)
	}
	return file
}
