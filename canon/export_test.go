package canon_test

import (
	"math"
	"slices"
	"strconv"
	"strings"
	"testing"

	"chronicle/api"
	"chronicle/canon"
)

var (
	sixty    = strings.Repeat("x", api.MaxText)
	sixtyOne = strings.Repeat("x", api.MaxText+1)
)

// told are events and their texts, written by hand from the document.
var told = []struct {
	l    []api.Event
	text string
}{
	{nil, `[]`},
	{[]api.Event{}, `[]`},
	{
		[]api.Event{{Kind: api.Failed, Task: "ab", Body: "x"}},
		`[{"body":"x","kind":"failed","tags":[],"task":"ab","time":0}]`,
	},
	{
		[]api.Event{{Kind: api.Begun, Task: "-", Tags: []string{}}},
		`[{"body":"","kind":"begun","tags":[],"task":"-","time":0}]`,
	},
	{
		[]api.Event{{Kind: api.Done, Task: "t", Time: 300, Body: "hi", Tags: []string{"a"}}},
		`[{"body":"hi","kind":"done","tags":["a"],"task":"t","time":300}]`,
	},
	{
		[]api.Event{{Kind: api.Noted, Task: sixty, Time: api.MaxTime, Body: sixty, Tags: []string{" ", "A", "a", sixty}}},
		`[{"body":"` + sixty + `","kind":"noted","tags":[" ","A","a","` + sixty + `"],"task":"` + sixty + `","time":1125899906842624}]`,
	},
	{
		[]api.Event{{Kind: api.Done, Task: `"`, Time: 1, Body: `\`, Tags: []string{`"\`, `\"`, `\\`}}},
		`[{"body":"\\","kind":"done","tags":["\"\\","\\\"","\\\\"],"task":"\"","time":1}]`,
	},
	{
		[]api.Event{{Kind: api.Done, Task: ` "a\b" `, Time: 10, Body: `{}[],:/'<&>\u0041\n`}},
		`[{"body":"{}[],:/'<&>\\u0041\\n","kind":"done","tags":[],"task":" \"a\\b\" ","time":10}]`,
	},
	{
		[]api.Event{{Kind: api.Noted, Task: "n"}, {Kind: api.Begun, Task: "b", Time: 9}, {Kind: api.Noted, Task: "n"}},
		`[{"body":"","kind":"noted","tags":[],"task":"n","time":0},{"body":"","kind":"begun","tags":[],"task":"b","time":9},{"body":"","kind":"noted","tags":[],"task":"n","time":0}]`,
	},
}

// none are no events, most of them beyond one bound by one.
var none = []api.Event{
	{},
	{Kind: 0, Task: "t"}, {Kind: 5, Task: "t"}, {Kind: -1, Task: "t"}, {Kind: math.MinInt, Task: "t"}, {Kind: math.MaxInt, Task: "t"},
	{Kind: 1}, {Kind: 1, Task: sixtyOne}, {Kind: 1, Task: "\x1f"}, {Kind: 1, Task: "\x7f"}, {Kind: 1, Task: "é"}, {Kind: 1, Task: "t\n"},
	{Kind: 1, Task: "t", Time: -1}, {Kind: 1, Task: "t", Time: api.MaxTime + 1}, {Kind: 1, Task: "t", Time: math.MinInt}, {Kind: 1, Task: "t", Time: math.MaxInt},
	{Kind: 1, Task: "t", Body: sixtyOne}, {Kind: 1, Task: "t", Body: "\x1f"}, {Kind: 1, Task: "t", Body: "\x7f"}, {Kind: 1, Task: "t", Body: "\x00"},
	{Kind: 1, Task: "t", Tags: []string{""}}, {Kind: 1, Task: "t", Tags: []string{sixtyOne}}, {Kind: 1, Task: "t", Tags: []string{"\x1f"}}, {Kind: 1, Task: "t", Tags: []string{"\x7f"}},
	{Kind: 1, Task: "t", Tags: []string{"a", "a"}}, {Kind: 1, Task: "t", Tags: []string{"b", "a"}}, {Kind: 1, Task: "t", Tags: []string{"a", "A"}},
	{Kind: 1, Task: "t", Tags: []string{"a", "b", "c", "d", "e"}},
}

// same: a list that has nothing in it may be nil or not.
func same(a, b api.Event) bool {
	return a.Kind == b.Kind && a.Task == b.Task && a.Time == b.Time && a.Body == b.Body && slices.Equal(a.Tags, b.Tags)
}

func wantExport(t *testing.T, l []api.Event, text string, errno api.Errno) {
	t.Helper()
	if has, f := canon.Export(l...); has != text || f != errno {
		t.Errorf("Export(%.200v) = %.200s, %d, want %.200s, %d", l, has, f, text, errno)
	}
}

func wantImport(t *testing.T, text string, l []api.Event, errno api.Errno) {
	t.Helper()
	if has, f := canon.Import(text); !slices.EqualFunc(has, l, same) || f != errno {
		t.Errorf("Import(%.300q) = %.200v, %d, want %.200v, %d", text, has, f, l, errno)
	}
}

// many are n events that are not all alike.
func many(n int) []api.Event {
	l := make([]api.Event, n)
	for i := range l {
		l[i] = api.Event{Kind: api.Begun + i%4, Task: sixty[:1+i%60], Time: i, Body: sixty[:i%61], Tags: []string{"a", "b", "c", "d"}[:i%5]}
	}
	return l
}

func TestP6Texts(t *testing.T) {
	for _, c := range told {
		wantExport(t, c.l, c.text, api.OK)
	}
}

func TestP6AnyNumber(t *testing.T) {
	a, b := api.Event{Kind: api.Begun, Task: "a"}, api.Event{Kind: api.Done, Task: "b"}
	const told = `[{"body":"","kind":"begun","tags":[],"task":"a","time":0},{"body":"","kind":"done","tags":[],"task":"b","time":0}]`
	if text, errno := canon.Export(); text != "[]" || errno != api.OK {
		t.Errorf("Export() = %s, %d", text, errno)
	}
	if text, errno := canon.Export(a, b); text != told || errno != api.OK {
		t.Errorf("Export of two = %s, %d, want %s", text, errno, told)
	}
}

func TestP6EveryByte(t *testing.T) {
	for c := byte(0x20); c <= 0x7e; c++ {
		s := string([]byte{c})
		quoted := `"` + s + `"`
		if c == '"' || c == '\\' {
			quoted = `"\` + s + `"`
		}
		l := []api.Event{{Kind: api.Noted, Task: s, Time: int(c), Body: s, Tags: []string{s}}}
		text := `[{"body":` + quoted + `,"kind":"noted","tags":[` + quoted + `],"task":` + quoted + `,"time":` + strconv.Itoa(int(c)) + `}]`
		wantExport(t, l, text, api.OK)
		wantImport(t, text, l, api.OK)
	}
}

func TestP6HowMany(t *testing.T) {
	for _, n := range []int{1, 199, 200} {
		text, errno := canon.Export(many(n)...)
		if errno != api.OK || strings.Count(text, "{") != n {
			t.Errorf("Export of %d events: %d of them told, %d", n, strings.Count(text, "{"), errno)
		}
		wantImport(t, text, many(n), api.OK)
	}
	for _, n := range []int{201, 202, 100000} {
		wantExport(t, many(n), "", api.ErrMany)
	}
}

func TestP6NoEvents(t *testing.T) {
	for _, e := range none {
		wantExport(t, []api.Event{e}, "", api.ErrValue)
		for _, at := range []int{0, 100, 199} {
			l := many(200)
			l[at] = e
			wantExport(t, l, "", api.ErrValue)
		}
	}
}

func TestP1ExportsErrorsInOrder(t *testing.T) {
	wantExport(t, make([]api.Event, 200), "", api.ErrValue)
	wantExport(t, make([]api.Event, 201), "", api.ErrMany)
	for _, at := range []int{0, 200} {
		l := many(201)
		l[at] = api.Event{}
		wantExport(t, l, "", api.ErrMany)
	}
}

func TestP6OneTextOfOneHistory(t *testing.T) {
	seen := map[string]int{}
	for i, l := range [][]api.Event{
		{}, many(1), many(2), {many(2)[1], many(2)[0]},
		{{Kind: 1, Task: "a"}}, {{Kind: 1, Task: "b"}}, {{Kind: 2, Task: "a"}}, {{Kind: 1, Task: "a", Time: 1}}, {{Kind: 1, Task: "a", Body: "a"}},
		{{Kind: 1, Task: "a", Tags: []string{"a", "b"}}}, {{Kind: 1, Task: "a", Tags: []string{`a","b`}}}, {{Kind: 1, Task: "a", Tags: []string{"a"}}},
		{{Kind: 1, Task: `a","time":0`}}, {{Kind: 1, Task: `a\`}}, {{Kind: 1, Task: `a"`}}, {{Kind: 1, Task: `a\"`}},
	} {
		text, errno := canon.Export(l...)
		if errno != api.OK || seen[text] != 0 {
			t.Errorf("Export of list %d = %s, %d: told of list %d too", i, text, errno, seen[text]-1)
		}
		seen[text] = i + 1
	}
}

func TestP2ExportWritesNothing(t *testing.T) {
	tags := []string{"a", "b", "mine", "mine"}
	behind := []api.Event{
		{Kind: api.Done, Task: "t", Tags: tags[:2]},
		{Kind: api.Done, Task: "u", Tags: tags[1:2]},
		{Kind: 9, Task: "mine"},
	}
	before := slices.Clone(behind)
	canon.Export(behind[:2]...)
	canon.Export(behind...)
	if !slices.EqualFunc(behind, before, same) || !slices.Equal(tags, []string{"a", "b", "mine", "mine"}) {
		t.Errorf("what was handed in is now %+v, %q", behind, tags)
	}
}
