package event

import (
	"math"
	"slices"
	"strings"
	"testing"

	"chronicle/api"
)

var (
	sixty    = strings.Repeat("x", api.MaxText)
	sixtyOne = strings.Repeat("x", api.MaxText+1)
)

// first tells the least version into which e goes, one beyond the newest if there is none, and whether e goes into all
// versions from there on.
func first(e api.Event) (least int, rising bool) {
	least = 1
	for least <= api.Newest && !GoesInto(least, e) {
		least++
	}
	for version := least; version <= api.Newest; version++ {
		if !GoesInto(version, e) {
			return least, false
		}
	}
	return least, true
}

func TestEvents(t *testing.T) {
	for _, c := range []struct {
		e     api.Event
		least int
	}{
		{api.Event{Kind: api.Begun, Task: "t"}, 1},
		{api.Event{Kind: api.Done, Task: " ", Body: "~"}, 1},
		{api.Event{Kind: api.Failed, Task: sixty, Body: sixty}, 1},
		{api.Event{Kind: api.Begun, Task: "--", Tags: []string{}}, 1},
		{api.Event{Kind: api.Begun, Task: "t", Body: "-"}, 1},
		{api.Event{Kind: api.Begun, Task: "-"}, 2},
		{api.Event{Kind: api.Noted, Task: "t"}, 2},
		{api.Event{Kind: api.Done, Task: "t", Time: 1}, 2},
		{api.Event{Kind: api.Done, Task: "t", Time: api.MaxTime}, 2},
		{api.Event{Kind: api.Done, Task: "t", Tags: []string{"-"}}, 3},
		{api.Event{Kind: api.Noted, Task: "-", Time: api.MaxTime, Tags: []string{" ", "A", "a", "aa"}}, 3},
		{api.Event{Kind: api.Noted, Task: "t", Tags: []string{sixty[1:], sixty}}, 3},
	} {
		if !Is(c.e) {
			t.Errorf("Is(%+v): it is", c.e)
		}
		if least, rising := first(c.e); least != c.least || !rising {
			t.Errorf("%+v goes into versions from %d on (%t), want from %d on", c.e, least, rising, c.least)
		}
	}
}

func TestNoEvents(t *testing.T) {
	for _, e := range []api.Event{
		{},
		{Kind: 0, Task: "t"}, {Kind: 5, Task: "t"}, {Kind: -1, Task: "t"}, {Kind: math.MinInt, Task: "t"},
		{Kind: 1}, {Kind: 1, Task: sixtyOne}, {Kind: 1, Task: "a\x1f"}, {Kind: 1, Task: "\x7fa"}, {Kind: 1, Task: "\xff"}, {Kind: 1, Task: "é"},
		{Kind: 1, Task: "t", Time: -1}, {Kind: 1, Task: "t", Time: api.MaxTime + 1}, {Kind: 1, Task: "t", Time: math.MinInt}, {Kind: 1, Task: "t", Time: math.MaxInt},
		{Kind: 1, Task: "t", Body: sixtyOne}, {Kind: 1, Task: "t", Body: "\n"}, {Kind: 1, Task: "t", Body: "\x00"}, {Kind: 1, Task: "t", Body: "\x80"},
		{Kind: 1, Task: "t", Tags: []string{""}}, {Kind: 1, Task: "t", Tags: []string{"", "a"}}, {Kind: 1, Task: "t", Tags: []string{sixtyOne}}, {Kind: 1, Task: "t", Tags: []string{"\t"}},
		{Kind: 1, Task: "t", Tags: []string{"a", "a"}}, {Kind: 1, Task: "t", Tags: []string{"b", "a"}}, {Kind: 1, Task: "t", Tags: []string{"a", "c", "b"}}, {Kind: 1, Task: "t", Tags: []string{"a", "A"}},
		{Kind: 1, Task: "t", Tags: []string{"a", "b", "c", "d", "e"}},
	} {
		if Is(e) {
			t.Errorf("Is(%+v): it is not", e)
		}
		if least, _ := first(e); least <= api.Newest {
			t.Errorf("%+v goes into version %d: it goes into none", e, least)
		}
	}
}

func TestVersions(t *testing.T) {
	for _, version := range []int{1, 2, 3} {
		if !IsVersion(version) {
			t.Errorf("IsVersion(%d): it is", version)
		}
	}
	for _, version := range []int{0, 4, -1, math.MinInt, math.MaxInt} {
		if IsVersion(version) || GoesInto(version, api.Event{Kind: 1, Task: "t"}) {
			t.Errorf("IsVersion(%d): it is not", version)
		}
	}
}

func TestCopy(t *testing.T) {
	tags := []string{"a", "b", "mine"}
	e := api.Event{Kind: api.Done, Task: "t", Time: 7, Body: "x", Tags: tags[:2]}
	c := Copy(e)
	if c.Kind != e.Kind || c.Task != e.Task || c.Time != e.Time || c.Body != e.Body || !slices.Equal(c.Tags, e.Tags) {
		t.Errorf("Copy(%+v) = %+v", e, c)
	}
	room := c.Tags[:cap(c.Tags)]
	for i := range room {
		room[i] = "yours"
	}
	if !slices.Equal(tags, []string{"a", "b", "mine"}) {
		t.Errorf("writing into a copy made the list %q", tags)
	}
	if c := Copy(api.Event{Tags: tags[:0]}); cap(c.Tags) != 0 {
		t.Errorf("a copy of no tags has room for %d", cap(c.Tags))
	}
}
