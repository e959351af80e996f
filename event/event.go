// Package event: what is an event, and into which versions it goes: see DOC.md, 'Words'.
package event

import (
	"strings"

	"chronicle/api"
)

// NoTask is how the newer versions name the task of an event that was written without one in version 1.
const NoTask = "-"

// IsVersion tells whether events have ever been written in a version.
func IsVersion(version int) bool {
	return 1 <= version && version <= api.Newest
}

// Is tells whether e is an event.
func Is(e api.Event) bool {
	return api.Begun <= e.Kind && e.Kind <= api.Noted &&
		isName(e.Task) &&
		0 <= e.Time && e.Time <= api.MaxTime &&
		IsLine(e.Body) &&
		areTags(e.Tags)
}

// GoesInto tells whether e is an event that can be written in a version.
func GoesInto(version int, e api.Event) bool {
	if !IsVersion(version) || !Is(e) {
		return false
	}
	if version <= 2 && len(e.Tags) > 0 {
		return false
	}
	return version > 1 || e.Time == 0 && e.Kind != api.Noted && e.Task != NoTask
}

// Copy makes an event that shares no memory with e.
func Copy(e api.Event) api.Event {
	var tags []string
	for _, tag := range e.Tags {
		tags = append(tags, strings.Clone(tag))
	}
	return api.Event{Kind: e.Kind, Task: strings.Clone(e.Task), Time: e.Time, Body: strings.Clone(e.Body), Tags: tags}
}

// IsPlain tells whether a byte may stand in a line.
func IsPlain(c byte) bool {
	return 0x20 <= c && c <= 0x7e
}

// IsLine tells whether a text is a line.
func IsLine(s string) bool {
	if len(s) > api.MaxText {
		return false
	}
	for i := range len(s) {
		if !IsPlain(s[i]) {
			return false
		}
	}
	return true
}

func isName(s string) bool {
	return s != "" && IsLine(s)
}

func areTags(tags []string) bool {
	if len(tags) > api.MaxTags {
		return false
	}
	for i, tag := range tags {
		if !isName(tag) || i > 0 && tags[i-1] >= tag {
			return false
		}
	}
	return true
}
