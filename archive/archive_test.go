package archive_test

import (
	"iter"
	"math"
	"slices"
	"strconv"
	"strings"
	"testing"

	"chronicle/api"
	"chronicle/archive"
)

var (
	sixty    = strings.Repeat("x", api.MaxText)
	sixtyOne = strings.Repeat("x", api.MaxText+1)
)

// goes are events, and the least versions into which they go.
var goes = []struct {
	e     api.Event
	least int
}{
	{api.Event{Kind: api.Begun, Task: "t"}, 1},
	{api.Event{Kind: api.Done, Task: " ", Body: "~"}, 1},
	{api.Event{Kind: api.Failed, Task: sixty, Body: sixty}, 1},
	{api.Event{Kind: api.Begun, Task: "--", Body: "-", Tags: []string{}}, 1},
	{api.Event{Kind: api.Begun, Task: "-"}, 2},
	{api.Event{Kind: api.Noted, Task: "t", Body: "b"}, 2},
	{api.Event{Kind: api.Done, Task: "t", Time: 1}, 2},
	{api.Event{Kind: api.Noted, Task: sixty, Time: api.MaxTime, Body: sixty}, 2},
	{api.Event{Kind: api.Done, Task: "t", Tags: []string{"-"}}, 3},
	{api.Event{Kind: api.Noted, Task: "-", Time: 128, Body: "b", Tags: []string{" ", "A", "a", "aa"}}, 3},
	{greatest, 3},
}

// greatest has as many bytes as an event can have.
var greatest = api.Event{Kind: api.Noted, Task: sixty, Time: api.MaxTime, Body: sixty, Tags: []string{"a" + sixty[1:], "b" + sixty[1:], "c" + sixty[1:], sixty}}

// none are no events.
var none = []api.Event{
	{},
	{Kind: 0, Task: "t"}, {Kind: 5, Task: "t"}, {Kind: -1, Task: "t"}, {Kind: math.MinInt, Task: "t"}, {Kind: math.MaxInt, Task: "t"},
	{Kind: 1}, {Kind: 1, Task: sixtyOne}, {Kind: 1, Task: "\x1f"}, {Kind: 1, Task: "\x7f"}, {Kind: 1, Task: "é"},
	{Kind: 1, Task: "t", Time: -1}, {Kind: 1, Task: "t", Time: api.MaxTime + 1}, {Kind: 1, Task: "t", Time: math.MinInt}, {Kind: 1, Task: "t", Time: math.MaxInt},
	{Kind: 1, Task: "t", Body: sixtyOne}, {Kind: 1, Task: "t", Body: "\x1f"}, {Kind: 1, Task: "t", Body: "\x7f"}, {Kind: 1, Task: "t", Body: strings.Repeat("x", 1<<20)},
	{Kind: 1, Task: "t", Tags: []string{""}}, {Kind: 1, Task: "t", Tags: []string{sixtyOne}}, {Kind: 1, Task: "t", Tags: []string{"\n"}},
	{Kind: 1, Task: "t", Tags: []string{"a", "a"}}, {Kind: 1, Task: "t", Tags: []string{"b", "a"}},
	{Kind: 1, Task: "t", Tags: []string{"a", "b", "c", "d", "e"}},
}

// many are n events that are not all alike and go into version 2.
func many(n int) []api.Event {
	l := make([]api.Event, n)
	for i := range l {
		l[i] = api.Event{Kind: api.Begun + i%4, Task: "t" + strconv.Itoa(i), Time: i, Body: sixty[:i%7] + strconv.Itoa(i%3) + sixty[:i%5]}
	}
	return l
}

// same: a list that has nothing in it may be nil or not.
func same(a, b api.Event) bool {
	return a.Kind == b.Kind && a.Task == b.Task && a.Time == b.Time && a.Body == b.Body && slices.Equal(a.Tags, b.Tags)
}

func open(t *testing.T, file string) *archive.Archive {
	t.Helper()
	a, errno := archive.Open(file)
	if a == nil || errno != api.OK {
		t.Fatalf("Open(%.200q) = %v, %d", file, a, errno)
	}
	return a
}

func wantAppend(t *testing.T, a *archive.Archive, version int, errno api.Errno, l ...api.Event) {
	t.Helper()
	if f := a.Append(version, l...); f != errno {
		t.Fatalf("Append(%d, %.200v) = %d, want %d", version, l, f, errno)
	}
}

// all ranges over an archive's events, and asks their places.
func all(t *testing.T, a *archive.Archive) []api.Event {
	t.Helper()
	var l []api.Event
	for i, e := range a.Events() {
		if i != len(l) {
			t.Fatalf("the place %d behind %d events", i, len(l))
		}
		l = append(l, e)
	}
	return l
}

func wantEvents(t *testing.T, a *archive.Archive, want ...api.Event) {
	t.Helper()
	if l := all(t, a); !slices.EqualFunc(l, want, same) {
		t.Fatalf("the events %.300v, want %.300v", l, want)
	}
	if a.Len() != len(want) {
		t.Fatalf("Len() = %d, want %d", a.Len(), len(want))
	}
}

// wantRefused asks for an error, and that nothing is changed behind it.
func wantRefused(t *testing.T, a *archive.Archive, version int, errno api.Errno, l ...api.Event) {
	t.Helper()
	before, file := all(t, a), a.File()
	wantAppend(t, a, version, errno, l...)
	wantEvents(t, a, before...)
	if a.File() != file {
		t.Fatalf("Append(%d, %.200v) = %d has changed the file", version, l, errno)
	}
}

func TestP8Empty(t *testing.T) {
	a := open(t, "")
	wantEvents(t, a)
	wantAppend(t, a, 3, api.OK, goes[0].e)
	wantEvents(t, open(t, ""))
}

func TestP9Versions(t *testing.T) {
	a := open(t, "")
	var want []api.Event
	for _, c := range goes {
		for version := 1; version <= api.Newest; version++ {
			if version < c.least {
				wantRefused(t, a, version, api.ErrValue, c.e)
				wantRefused(t, a, version, api.ErrValue, goes[0].e, c.e)
				wantRefused(t, a, version, api.ErrValue, c.e, goes[0].e)
				continue
			}
			wantAppend(t, a, version, api.OK, c.e)
			want = append(want, c.e)
			wantEvents(t, a, want...)
			wantEvents(t, open(t, a.File()), want...)
		}
	}
}

func TestP9AnyNumber(t *testing.T) {
	a := open(t, "")
	l := many(30)
	wantAppend(t, a, 2, api.OK)
	wantEvents(t, a)
	wantAppend(t, a, 2, api.OK, l[0], l[1])
	wantAppend(t, a, 2, api.OK, nil...)
	wantAppend(t, a, 3, api.OK, l[2])
	wantEvents(t, a, l[:3]...)
	wantAppend(t, a, 2, api.OK, l[3:]...)
	wantEvents(t, a, l...)
	wantAppend(t, a, 3, api.OK, l...)
	wantEvents(t, a, append(l, l...)...)
}

func TestP9NoVersions(t *testing.T) {
	for _, n := range []int{0, 3, 200} {
		a := open(t, "")
		wantAppend(t, a, 2, api.OK, many(n)...)
		for _, version := range []int{0, 4, -1, math.MinInt, math.MaxInt} {
			wantRefused(t, a, version, api.ErrVersion)
			wantRefused(t, a, version, api.ErrVersion, goes[0].e)
			wantRefused(t, a, version, api.ErrVersion, api.Event{})
			wantRefused(t, a, version, api.ErrVersion, many(201)...)
			wantRefused(t, a, version, api.ErrVersion, make([]api.Event, 201)...)
		}
	}
}

func TestP9NoEvents(t *testing.T) {
	a := open(t, "")
	wantAppend(t, a, 2, api.OK, many(5)...)
	for _, e := range none {
		for version := 1; version <= api.Newest; version++ {
			wantRefused(t, a, version, api.ErrValue, e)
			wantRefused(t, a, version, api.ErrValue, goes[0].e, goes[1].e, e)
			wantRefused(t, a, version, api.ErrValue, e, goes[0].e, goes[1].e)
			wantRefused(t, a, version, api.ErrValue, goes[0].e, e, goes[1].e)
		}
	}
	wantAppend(t, a, 1, api.OK, goes[0].e)
	wantEvents(t, a, append(many(5), goes[0].e)...)
}

func TestP9HowMany(t *testing.T) {
	l := many(201)
	for n := 0; n <= 200; n += 50 {
		a := open(t, "")
		wantAppend(t, a, 2, api.OK, l[:n]...)
		wantRefused(t, a, 2, api.ErrMany, l[n:]...)
		wantRefused(t, a, 2, api.ErrMany, make([]api.Event, 100000)...)
		wantAppend(t, a, 2, api.OK, l[n:200]...)
		wantRefused(t, a, 2, api.ErrMany, l[200])
		wantRefused(t, a, 2, api.OK)
		wantEvents(t, a, l[:200]...)
		b := open(t, a.File())
		wantEvents(t, b, l[:200]...)
		wantRefused(t, b, 2, api.ErrMany, l[200])
		b.Migrate()
		wantRefused(t, b, 2, api.ErrMany, l[200])
		wantRefused(t, open(t, b.File()), 2, api.ErrMany, l[200])
	}
}

func TestP9OneByOne(t *testing.T) {
	a := open(t, "")
	for i, e := range many(200) {
		wantAppend(t, a, 2+i%2, api.OK, e)
	}
	wantEvents(t, a, many(200)...)
	wantRefused(t, a, 3, api.ErrMany, goes[0].e)
	wantEvents(t, open(t, a.File()), many(200)...)
}

func TestP1ErrorsInOrder(t *testing.T) {
	a := open(t, "")
	wantRefused(t, a, 4, api.ErrVersion, make([]api.Event, 201)...)
	wantRefused(t, a, 3, api.ErrMany, make([]api.Event, 201)...)
	wantRefused(t, a, 3, api.ErrValue, make([]api.Event, 200)...)
	wantAppend(t, a, 2, api.OK, many(150)...)
	wantRefused(t, a, 0, api.ErrVersion, make([]api.Event, 51)...)
	wantRefused(t, a, 1, api.ErrMany, make([]api.Event, 51)...)
	wantRefused(t, a, 1, api.ErrMany, many(51)...)
	wantRefused(t, a, 1, api.ErrValue, make([]api.Event, 50)...)
	wantRefused(t, a, 1, api.ErrValue, many(50)...)
	wantAppend(t, a, 2, api.OK, many(50)...)
	wantRefused(t, a, 0, api.ErrVersion, api.Event{})
	wantRefused(t, a, 1, api.ErrMany, api.Event{})
}

func TestP9StopsWithTheLoop(t *testing.T) {
	l := many(10)
	a := open(t, "")
	wantAppend(t, a, 2, api.OK, l...)
	for most := 1; most <= 10; most++ {
		n := 0
		a.Events()(func(i int, e api.Event) bool {
			if i != n || !same(e, l[i]) {
				t.Errorf("event %d is told as %d, %+v", n, i, e)
			}
			n++
			return n < most
		})
		if n != most {
			t.Errorf("%d events are told to a loop that stopped behind %d", n, most)
		}
	}
	wantEvents(t, a, l...)
}

func TestP9RangedOverAgain(t *testing.T) {
	l := many(10)
	a := open(t, "")
	events := a.Events()
	for n := range l {
		told := 0
		for i, e := range events {
			if i != told || !same(e, l[i]) {
				t.Errorf("event %d is told as %d, %+v", told, i, e)
			}
			told++
			for k := range events {
				if k == i {
					break
				}
			}
		}
		if told != n {
			t.Errorf("%d events are told of %d", told, n)
		}
		wantAppend(t, a, 2, api.OK, l[n])
	}
}

// TestP9WhenTheRangingBegins: what comes behind that is not told, and hinders nothing.
func TestP9WhenTheRangingBegins(t *testing.T) {
	l := many(10)
	a := open(t, "")
	events := a.Events()
	wantAppend(t, a, 2, api.OK, l...)
	want := slices.Clone(l)
	n := 0
	for i, e := range events {
		if i != n || !same(e, l[i]) {
			t.Errorf("event %d is told as %d, %+v", n, i, e)
		}
		n++
		wantAppend(t, a, 2, api.OK, e, l[0])
		want = append(want, e, l[0])
		wantRefused(t, a, 3, api.ErrValue, api.Event{})
		wantEvents(t, a, want...)
		wantEvents(t, open(t, a.File()), want...)
		a.Migrate()
		wantEvents(t, open(t, a.File()), want...)
	}
	if n != 10 {
		t.Errorf("%d events are told, want 10", n)
	}
	wantEvents(t, a, want...)
}

func TestP9Pulled(t *testing.T) {
	l := many(4)
	a := open(t, "")
	wantAppend(t, a, 2, api.OK, l[:2]...)
	next, stop := iter.Pull2(a.Events())
	defer stop()
	for i := range 2 {
		if k, e, ok := next(); k != i || !same(e, l[i]) || !ok {
			t.Errorf("event %d is told as %d, %+v, %t", i, k, e, ok)
		}
		wantAppend(t, a, 2, api.OK, l[2+i])
	}
	if k, e, ok := next(); ok {
		t.Errorf("behind the last event there is %d, %+v", k, e)
	}
	wantEvents(t, a, l...)
}

// TestP9LoopLeft: a loop that is left in whatever way leaves the archive free.
func TestP9LoopLeft(t *testing.T) {
	a := open(t, "")
	wantAppend(t, a, 2, api.OK, many(3)...)
	func() {
		defer func() { recover() }()
		for range a.Events() {
			panic("left")
		}
	}()
	func() {
		for range a.Events() {
			return
		}
	}()
	wantAppend(t, a, 2, api.OK, many(1)...)
	wantEvents(t, a, append(many(3), many(1)...)...)
}
