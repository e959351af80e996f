package schema_test

import (
	"math"
	"slices"
	"strings"
	"sync"
	"testing"

	"chronicle/api"
	"chronicle/schema"
)

var (
	sixty    = strings.Repeat("x", api.MaxText)
	sixtyOne = strings.Repeat("x", api.MaxText+1)
)

// written are events and their bytes, told by hand from the document.
var written = []struct {
	version int
	e       api.Event
	s       string
}{
	{1, api.Event{Kind: api.Failed, Task: "ab", Body: "x"}, "f\x02abx"},
	{1, api.Event{Kind: api.Begun, Task: "t"}, "b\x01t"},
	{1, api.Event{Kind: api.Done, Task: "--", Body: "-"}, "d\x02---"},
	{1, api.Event{Kind: api.Done, Task: sixty, Body: sixty}, "d\x3c" + sixty + sixty},
	{2, api.Event{Kind: api.Noted, Task: "-"}, "\x01\x03\x02\x01-"},
	{2, api.Event{Kind: api.Begun, Task: "t", Time: 1}, "\x01\x00\x02\x01t\x03\x01"},
	{2, api.Event{Kind: api.Done, Task: " ", Time: 127, Body: "~"}, "\x01\x01\x02\x01 \x03\x7f\x04\x01~"},
	{2, api.Event{Kind: api.Failed, Task: sixty, Time: api.MaxTime, Body: sixty}, "\x01\x02\x02\x3c" + sixty + "\x03\x80\x80\x80\x80\x80\x80\x80\x02\x04\x3c" + sixty},
	{3, api.Event{Kind: api.Done, Task: "t", Time: 300, Body: "hi", Tags: []string{"a"}}, "\x01\x02\x02\x01t\x03\xac\x02\x04\x02hi\x05\x01a"},
	{3, api.Event{Kind: api.Begun, Task: "t"}, "\x01\x01\x02\x01t"},
	{3, api.Event{Kind: api.Noted, Task: "-", Time: 128}, "\x01\x04\x02\x01-\x03\x80\x01"},
	{3, api.Event{Kind: api.Failed, Task: sixty, Time: api.MaxTime, Body: sixty, Tags: []string{" ", "A", "a", sixty}}, "\x01\x03\x02\x3c" + sixty + "\x03\x80\x80\x80\x80\x80\x80\x80\x02\x04\x3c" + sixty + "\x05\x01 \x05\x01A\x05\x01a\x05\x3c" + sixty},
}

// same: a list that has nothing in it may be nil or not.
func same(a, b api.Event) bool {
	return a.Kind == b.Kind && a.Task == b.Task && a.Time == b.Time && a.Body == b.Body && slices.Equal(a.Tags, b.Tags)
}

func wantEncode(t *testing.T, version int, e api.Event, s string, errno api.Errno) {
	t.Helper()
	if has, f := schema.Encode(version, e); has != s || f != errno {
		t.Errorf("Encode(%d, %+v) = %x, %d, want %x, %d", version, e, has, f, s, errno)
	}
}

func wantDecode(t *testing.T, version int, s string, e api.Event, errno api.Errno) {
	t.Helper()
	if has, f := schema.Decode(version, s); !same(has, e) || f != errno {
		t.Errorf("Decode(%d, %x) = %+v, %d, want %+v, %d", version, s, has, f, e, errno)
	}
}

func TestP3Bytes(t *testing.T) {
	for _, c := range written {
		wantEncode(t, c.version, c.e, c.s, api.OK)
	}
}

func TestP4Events(t *testing.T) {
	for _, c := range written {
		wantDecode(t, c.version, c.s, c.e, api.OK)
	}
}

func TestP4EmptyTask(t *testing.T) {
	wantDecode(t, 1, "b\x00", api.Event{Kind: api.Begun, Task: "-"}, api.OK)
	wantDecode(t, 1, "d\x00why", api.Event{Kind: api.Done, Task: "-", Body: "why"}, api.OK)
	wantDecode(t, 1, "f\x00"+sixty, api.Event{Kind: api.Failed, Task: "-", Body: sixty}, api.OK)
	wantEncode(t, 1, api.Event{Kind: api.Begun, Task: "-"}, "", api.ErrValue)
	for _, s := range []string{"n\x00", "b\x00" + sixtyOne, "b\x00\n", "b\x80\x00", "b\x01-"} {
		wantDecode(t, 1, s, api.Event{}, api.ErrData)
	}
	wantDecode(t, 2, "\x01\x00\x02\x00", api.Event{}, api.ErrData)
	wantDecode(t, 3, "\x01\x01\x02\x00", api.Event{}, api.ErrData)
}

func TestP3NoVersion(t *testing.T) {
	for _, version := range []int{0, 4, -1, math.MinInt, math.MaxInt} {
		wantEncode(t, version, api.Event{Kind: api.Begun, Task: "t"}, "", api.ErrVersion)
	}
}

func TestP3NoEvent(t *testing.T) {
	for version := 1; version <= api.Newest; version++ {
		for _, e := range []api.Event{
			{},
			{Kind: 0, Task: "t"}, {Kind: 5, Task: "t"}, {Kind: math.MinInt, Task: "t"}, {Kind: math.MaxInt, Task: "t"},
			{Kind: 1}, {Kind: 1, Task: sixtyOne}, {Kind: 1, Task: "\x1f"}, {Kind: 1, Task: "\x7f"}, {Kind: 1, Task: "é"},
			{Kind: 1, Task: "t", Time: -1}, {Kind: 1, Task: "t", Time: api.MaxTime + 1}, {Kind: 1, Task: "t", Time: math.MinInt},
			{Kind: 1, Task: "t", Body: sixtyOne}, {Kind: 1, Task: "t", Body: "\x00"}, {Kind: 1, Task: "t", Body: "\xff"},
			{Kind: 1, Task: "t", Tags: []string{""}}, {Kind: 1, Task: "t", Tags: []string{sixtyOne}}, {Kind: 1, Task: "t", Tags: []string{"\n"}},
			{Kind: 1, Task: "t", Tags: []string{"a", "a"}}, {Kind: 1, Task: "t", Tags: []string{"b", "a"}},
			{Kind: 1, Task: "t", Tags: []string{"a", "b", "c", "d", "e"}},
		} {
			wantEncode(t, version, e, "", api.ErrValue)
		}
	}
}

func TestP3WrongVersion(t *testing.T) {
	for _, c := range []struct {
		e    api.Event
		most int // the greatest version into which it does not go
	}{
		{api.Event{Kind: api.Begun, Task: "t"}, 0},
		{api.Event{Kind: api.Begun, Task: "t", Tags: []string{}}, 0},
		{api.Event{Kind: api.Begun, Task: "-"}, 1},
		{api.Event{Kind: api.Noted, Task: "t"}, 1},
		{api.Event{Kind: api.Begun, Task: "t", Time: 1}, 1},
		{api.Event{Kind: api.Begun, Task: "t", Time: api.MaxTime}, 1},
		{api.Event{Kind: api.Begun, Task: "t", Tags: []string{"a"}}, 2},
	} {
		for version := 1; version <= api.Newest; version++ {
			s, f := schema.Encode(version, c.e)
			if version <= c.most && (s != "" || f != api.ErrValue) || version > c.most && (s == "" || f != api.OK) {
				t.Errorf("Encode(%d, %+v) = %x, %d", version, c.e, s, f)
			}
		}
	}
}

func TestP4NoAnswers(t *testing.T) {
	const v2, v3 = "\x01\x00\x02\x01t", "\x01\x01\x02\x01t"
	for _, c := range []struct {
		version int
		l       []string
	}{
		{1, []string{
			"", "b", "B\x01t", "n\x01t", "\x00\x01t", "\xff\x01t", "b\x01-", "b\x01-x", "b\x02t", "b\x80", "b\x81\x00t", "bt",
			"b\x3d" + sixtyOne, "b\x01t" + sixtyOne, "b\x01\n", "b\x01t\n", "b\x01t\x7f",
			"b\xff\xff\xff\xff\xff\xff\xff\xff\x7ft", v2, v3,
		}},
		{2, []string{
			"", "\x01", "\x01\x00", "\x02\x01t", "\x02\x01t\x01\x00", "\x01\x04\x02\x01t", "\x01\xff\xff\xff\xff\xff\xff\xff\xff\x7f\x02\x01t",
			v2 + "\x03\x00", v2 + "\x04\x00", v2 + "\x04\x01a\x03\x01", v2 + "\x05\x01a", v2 + "\x00", v2 + "t", v2 + v2, "b\x01t",
		}},
		{3, []string{
			"", "\x01", "\x01\x01", "\x02\x01t", "\x02\x01t\x01\x01", "\x01\x00\x02\x01t", "\x01\x05\x02\x01t", "\x01\x01\x01\x01\x02\x01t", "\x01\x01\x02\x01t\x02\x01t",
			"\x81\x00\x01\x02\x01t", "\x01\x81\x00\x02\x01t", "\x01\x01\x02\x81\x00t", "\x01\x01\x02\x01\x1f", "\x01\x01\x02\x3d" + sixtyOne,
			v3 + "\x03", v3 + "\x03\x00", v3 + "\x03\x80", v3 + "\x03\x81\x00", v3 + "\x03\x81\x80\x80\x80\x80\x80\x80\x02", v3 + "\x03\x80\x80\x80\x80\x80\x80\x80\x80\x80\x01", v3 + "\x03\x01\x03\x01",
			v3 + "\x04", v3 + "\x04\x00", v3 + "\x04\x02a", v3 + "\x04\x01\n", v3 + "\x04\x3d" + sixtyOne, v3 + "\x04\x01a\x03\x01", v3 + "\x04\x01a\x04\x01a",
			v3 + "\x05", v3 + "\x05\x00", v3 + "\x05\x01\n", v3 + "\x05\x3d" + sixtyOne, v3 + "\x05\x01a\x05\x01a", v3 + "\x05\x01b\x05\x01a", v3 + "\x05\x01a\x04\x01a",
			v3 + "\x05\x01a\x05\x01b\x05\x01c\x05\x01d\x05\x01e", v3 + strings.Repeat("\x05\x01a", 1000),
			v3 + "\x00", v3 + "\x06\x01a", "b\x01t",
		}},
	} {
		for _, s := range c.l {
			wantDecode(t, c.version, s, api.Event{}, api.ErrData)
		}
	}
}

func TestP4NoVersion(t *testing.T) {
	for _, version := range []int{0, 4, -1, math.MinInt, math.MaxInt} {
		wantDecode(t, version, "\x01\x01\x02\x01t", api.Event{}, api.ErrVersion)
	}
}

func TestP1ErrorsInOrder(t *testing.T) {
	for _, version := range []int{0, 4, math.MinInt, math.MaxInt} {
		wantEncode(t, version, api.Event{}, "", api.ErrVersion)
		wantDecode(t, version, "", api.Event{}, api.ErrVersion)
	}
}

// holdsP4 asks what P4 says of any bytes: they are an event's, or there is no event.
func holdsP4(t *testing.T, version int, s string) {
	t.Helper()
	e, f := schema.Decode(version, s)
	if f == api.ErrData && same(e, api.Event{}) {
		return
	}
	if f == api.OK && version == 1 && e.Task == "-" {
		if s[1] != 0 || s[2:] != e.Body {
			t.Fatalf("Decode(1, %x) = %#v", s, e)
		}
		e.Task, s = "t", s[:1]+"\x01t"+s[2:]
	}
	if again, errno := schema.Encode(version, e); f != api.OK || errno != api.OK || again != s {
		t.Fatalf("Decode(%d, %x) = %#v, %d, of which Encode makes %x, %d", version, s, e, f, again, errno)
	}
}

func TestP1AnyBytes(t *testing.T) {
	for version := 1; version <= api.Newest; version++ {
		for _, c := range written {
			for i := range len(c.s) {
				holdsP4(t, version, c.s[:i])
				holdsP4(t, version, c.s[i:])
				holdsP4(t, version, c.s[:i]+c.s[i+1:])
				for b := range 256 {
					holdsP4(t, version, c.s[:i]+string([]byte{byte(b)})+c.s[i+1:])
					holdsP4(t, version, c.s[:i]+string([]byte{byte(b)})+c.s[i:])
				}
			}
		}
		holdsP4(t, version, strings.Repeat("\xff", 1<<20))
		holdsP4(t, version, strings.Repeat("\x05\x01a", 1<<20))
	}
}

func TestP4ReadsAllThatP3Writes(t *testing.T) {
	lines := []string{"", "-", "a", "\x20\x7e", sixty}
	for version := 1; version <= api.Newest; version++ {
		for kind := api.Begun; kind <= api.Noted; kind++ {
			for _, task := range lines {
				for _, body := range lines {
					for _, time := range []int{0, 1, 127, 128, 1<<14 - 1, 1 << 14, api.MaxTime - 1, api.MaxTime} {
						for tags := range 5 {
							e := api.Event{Kind: kind, Task: task, Time: time, Body: body, Tags: []string{"-", "a", "b", sixty}[:tags]}
							if s, f := schema.Encode(version, e); f == api.OK {
								wantDecode(t, version, s, e, api.OK)
							}
						}
					}
				}
			}
		}
	}
}

func TestP2NothingHandedInIsWritten(t *testing.T) {
	behind := []string{"a", "b", "mine", "mine"}
	e := api.Event{Kind: api.Done, Task: "t", Tags: behind[:2]}
	for version := range 5 {
		schema.Encode(version, e)
	}
	e.Tags = behind[1:3:3]
	e.Kind = 0
	schema.Encode(3, e)
	if !slices.Equal(behind, []string{"a", "b", "mine", "mine"}) {
		t.Errorf("the list that was handed in is now %q", behind)
	}
}

func TestP2AnswersAreNew(t *testing.T) {
	const s = "\x01\x01\x02\x01t\x05\x01a\x05\x01b\x05\x01c"
	want := api.Event{Kind: api.Begun, Task: "t", Tags: []string{"a", "b", "c"}}
	first, _ := schema.Decode(3, s)
	second, _ := schema.Decode(3, s)
	room := first.Tags[:cap(first.Tags)]
	for i := range room {
		room[i] = "mine"
	}
	if !same(second, want) {
		t.Errorf("writing into one answer made another one %+v", second)
	}
	wantDecode(t, 3, s, want, api.OK)
}

func TestP2AnswersHangOnArgumentsAlone(t *testing.T) {
	var group sync.WaitGroup
	for range 8 {
		group.Go(func() {
			for _, c := range written {
				wantDecode(t, c.version, c.s[:1], api.Event{}, api.ErrData)
				wantDecode(t, c.version, c.s, c.e, api.OK)
				wantEncode(t, c.version, api.Event{}, "", api.ErrValue)
				wantEncode(t, c.version, c.e, c.s, api.OK)
			}
		})
	}
	group.Wait()
}
