package archive_test

import (
	"slices"
	"strings"
	"testing"
	"unsafe"

	"chronicle/api"
	"chronicle/archive"
)

// within tells whether s begins in the memory of t.
func within(s, t string) bool {
	at := uintptr(unsafe.Pointer(unsafe.StringData(s)))
	from := uintptr(unsafe.Pointer(unsafe.StringData(t)))
	return at >= from && at < from+uintptr(len(t))
}

func TestP2NothingHandedInIsWritten(t *testing.T) {
	tags := []string{"a", "b", "mine", "mine"}
	l := []api.Event{
		{Kind: api.Done, Task: "t", Body: "one", Tags: tags[:2]},
		{Kind: api.Done, Task: "u", Body: "two", Tags: tags[1:2]},
		{Kind: 9, Task: "mine", Body: "mine", Tags: tags[2:]},
	}
	before := slices.Clone(l)
	a := open(t, "")
	for version := range 5 {
		a.Append(version, l[:2]...)
		a.Append(version, l...)
		a.Append(version, slices.Repeat(l, 100)...)
	}
	a.Migrate()
	if !slices.EqualFunc(l, before, same) || !slices.Equal(tags, []string{"a", "b", "mine", "mine"}) {
		t.Errorf("what was handed in is now %+v, %q", l, tags)
	}
}

func TestP2NoListIsKept(t *testing.T) {
	want := []api.Event{goes[9].e, goes[0].e, goes[10].e}
	l := slices.Grow([]api.Event(nil), 10)
	for _, e := range want {
		e.Tags = slices.Clone(e.Tags)
		l = append(l, e)
	}
	a := open(t, "")
	wantAppend(t, a, 3, api.OK, l...)
	file := a.File()
	writeFull(l)
	wantEvents(t, a, want...)
	wantFile(t, a, file)
	a.Migrate()
	wantEvents(t, open(t, a.File()), want...)
	wantAppend(t, a, 1, api.OK, goes[1].e)
	wantEvents(t, open(t, a.File()), append(want, goes[1].e)...)
}

// writeFull writes into a list and those within it, their spare room too.
func writeFull(l []api.Event) {
	room := l[:cap(l)]
	for i := range room {
		tags := room[i].Tags[:cap(room[i].Tags)]
		for k := range tags {
			tags[k] = "mine"
		}
		room[i] = api.Event{Kind: 9, Task: "mine", Time: -1, Body: "mine", Tags: tags}
	}
}

func TestP2NoTextIsKept(t *testing.T) {
	first := open(t, "")
	wantAppend(t, first, 3, api.OK, goes[9].e, greatest)
	file := strings.Clone(first.File())
	e := api.Event{Kind: 1, Task: strings.Clone("a task"), Body: strings.Clone("a body"), Tags: []string{strings.Clone("a tag")}}
	a := open(t, file)
	wantAppend(t, a, 3, api.OK, e)
	if within(a.File(), file) || within(open(t, file).File(), file) {
		t.Errorf("the file is a piece of what was handed in")
	}
	for _, x := range all(t, a) {
		for _, s := range append([]string{x.Task, x.Body}, x.Tags...) {
			if within(s, file) || within(s, e.Task) || within(s, e.Body) || within(s, e.Tags[0]) {
				t.Errorf("%q is a piece of what was handed in", s)
			}
		}
	}
}

func TestP2AnswersAreNew(t *testing.T) {
	want := []api.Event{goes[9].e, goes[8].e, greatest, goes[9].e, {Kind: 1, Task: "t", Tags: []string{"a", "b", "c"}}}
	appended := open(t, "")
	wantAppend(t, appended, 3, api.OK, want...)
	opened := open(t, appended.File())
	for _, a := range []*archive.Archive{appended, opened} {
		kept := all(t, a)
		for range 2 {
			writeFull(all(t, a))
			wantEvents(t, a, want...)
		}
		for i, e := range a.Events() {
			if !same(e, want[i]) {
				t.Fatalf("event %d is told as %+v, want %+v", i, e, want[i])
			}
			writeFull([]api.Event{e})
		}
		wantEvents(t, a, want...)
		if !slices.EqualFunc(kept, want, same) {
			t.Errorf("writing into one answer made another one %+v", kept)
		}
		a.Migrate()
		wantFile(t, a, fresh(t, want).File())
		wantEvents(t, open(t, a.File()), want...)
	}
}

// TestP2ListsApart: no two lists of one answer lie in one another's room.
func TestP2ListsApart(t *testing.T) {
	want := slices.Repeat([]api.Event{goes[9].e, {Kind: 1, Task: "t", Tags: []string{"a", "b", "c"}}}, 20)
	a := open(t, "")
	wantAppend(t, a, 3, api.OK, want...)
	l := all(t, a)
	for i := range l {
		writeFull(l[i : i+1 : i+1])
		if !slices.EqualFunc(l[i+1:], want[i+1:], same) {
			t.Fatalf("writing into the tags of event %d changed those behind it", i)
		}
	}
}

func TestP2ArchivesApart(t *testing.T) {
	l := many(8)
	first := open(t, "")
	wantAppend(t, first, 2, api.OK, l[:4]...)
	file := first.File()
	a, b := open(t, file), open(t, file)
	wantAppend(t, a, 2, api.OK, l[4])
	wantAppend(t, b, 3, api.OK, l[5], l[6])
	wantAppend(t, first, 2, api.OK, l[7])
	ofB := b.File()
	a.Migrate()
	wantEvents(t, a, l[:5]...)
	wantEvents(t, b, append(slices.Clone(l[:4]), l[5], l[6])...)
	wantEvents(t, first, append(slices.Clone(l[:4]), l[7])...)
	wantFile(t, b, ofB)
	wantEvents(t, open(t, file), l[:4]...)
	wantFile(t, open(t, file), file)
}
