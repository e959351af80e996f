package archive_test

import (
	"math/rand"
	"slices"
	"strconv"
	"strings"
	"testing"

	"chronicle/api"
	"chronicle/archive"
	"chronicle/canon"
	"chronicle/delta"
)

// TestP10Bytes: which bytes a file has is the program's business, but files that were written once are to be read for ever.
func TestP10Bytes(t *testing.T) {
	l := []api.Event{
		{Kind: api.Failed, Task: "ab", Body: "abcabc"},
		{Kind: api.Begun, Task: "t", Body: "abXbc"},
		{Kind: api.Noted, Task: "-", Body: "bc"},
		{Kind: api.Done, Task: "t", Time: 300, Body: "bchi", Tags: []string{"a", "b"}},
	}
	entries := []string{
		"\x01\x02" + "\x04f\x02ab" + "\x08\x00\x00abcabc" + "\x03b\x01t" + "\x03\x02\x02X",
		"\x02\x01" + "\x05\x01\x03\x02\x01-" + "\x02\x00\x02",
		"\x03\x01" + "\x0e\x01\x02\x02\x01t\x03\xac\x02\x05\x01a\x05\x01b" + "\x04\x02\x00hi",
	}
	a := open(t, "")
	wantAppend(t, a, 1, api.OK, l[:2]...)
	wantAppend(t, a, 2, api.OK, l[2])
	wantAppend(t, a, 3, api.OK, l[3])
	wantFile(t, a, strings.Join(entries, ""))
	wantEvents(t, open(t, strings.Join(entries, "")), l...)
	a.Migrate()
	wantFile(t, a, "\x03\x01"+"\x06\x01\x03\x02\x02ab"+"\x08\x00\x00abcabc"+
		"\x03\x01"+"\x05\x01\x01\x02\x01t"+"\x03\x02\x02X"+
		"\x03\x01"+"\x05\x01\x04\x02\x01-"+"\x02\x00\x02"+
		entries[2])
	wantEvents(t, open(t, "\x01\x01\x02b\x00\x02\x00\x00"), api.Event{Kind: api.Begun, Task: "-"})
}

func wantFile(t *testing.T, a *archive.Archive, file string) {
	t.Helper()
	if has := a.File(); has != file {
		t.Fatalf("the file %.300q, want %.300q", has, file)
	}
}

func TestP10Grows(t *testing.T) {
	a := open(t, "")
	for round := range 3 {
		for _, c := range goes {
			before := a.File()
			for range a.Events() {
				break
			}
			a.Len()
			wantRefused(t, a, 0, api.ErrVersion, c.e)
			wantRefused(t, a, 3, api.ErrValue, c.e, api.Event{})
			wantRefused(t, a, 3, api.ErrMany, many(201)...)
			wantRefused(t, a, c.least, api.OK)
			wantFile(t, a, before)
			wantAppend(t, a, c.least, api.OK, slices.Repeat([]api.Event{c.e}, 1+round)...)
			if has := a.File(); !strings.HasPrefix(has, before) || len(has) == len(before) {
				t.Fatalf("an Append has made %q of the file %q", has, before)
			}
		}
		a.Migrate()
	}
}

// history is an archive, and what it was each time its file had grown since the last Migrate.
type history struct {
	*archive.Archive
	events []api.Event
	stands []stand
}

type stand struct {
	file string
	n    int
}

func begin(t *testing.T) *history {
	a := open(t, "")
	return &history{Archive: a, stands: []stand{{a.File(), 0}}}
}

func (h *history) add(t *testing.T, version int, l ...api.Event) {
	t.Helper()
	wantAppend(t, h.Archive, version, api.OK, l...)
	h.events = append(h.events, l...)
	h.stands = append(h.stands, stand{h.File(), len(h.events)})
}

func (h *history) migrate() {
	h.Migrate()
	h.stands = []stand{{h.File(), len(h.events)}}
}

// wantBeginnings opens every beginning of a history's file, but within what Migrate wrote last.
func wantBeginnings(t *testing.T, h *history) {
	t.Helper()
	file, at := h.File(), 0
	for n := len(h.stands[0].file); n <= len(file); n++ {
		if at+1 < len(h.stands) && len(h.stands[at+1].file) == n {
			at++
		}
		a := open(t, file[:n])
		wantFile(t, a, h.stands[at].file)
		wantEvents(t, a, h.events[:h.stands[at].n]...)
	}
	if at != len(h.stands)-1 {
		t.Fatalf("the file has %d bytes, and never was as it is", len(file))
	}
}

func drawn(r *rand.Rand, version int) api.Event {
	e := api.Event{Kind: 1 + r.Intn(3), Task: sixty[:1+r.Intn(60)], Body: sixty[:r.Intn(20)] + strconv.Itoa(r.Intn(3)) + sixty[:r.Intn(20)]}
	if version > 1 {
		e.Kind += r.Intn(2)
		e.Time = r.Intn(2) << r.Intn(51)
	}
	if version > 2 {
		e.Tags = []string{"a", "b", "c", "d" + sixty[1:]}[:r.Intn(5)]
	}
	return e
}

func TestP10EveryBeginning(t *testing.T) {
	r := rand.New(rand.NewSource(10))
	for round := range 12 {
		h := begin(t)
		for i := range 8 {
			version := 1 + r.Intn(3)
			l := make([]api.Event, 1+r.Intn(4))
			for k := range l {
				l[k] = drawn(r, version)
			}
			h.add(t, version, l...)
			if i == round {
				h.migrate()
			}
		}
		wantBeginnings(t, h)
	}
}

// TestP10GreatestEntries: lengths and numbers that take two bytes are cut off within too.
func TestP10GreatestEntries(t *testing.T) {
	h := begin(t)
	h.add(t, 3, greatest)
	h.add(t, 3, slices.Repeat([]api.Event{greatest}, 198)...)
	h.add(t, 3, greatest)
	for _, n := range []int{0, 1, 2, 3, 4, 100, len(h.stands[1].file) - 1} {
		wantEvents(t, open(t, h.File()[:n]))
	}
	for _, back := range []int{1, 2, 3, 300} {
		wantFile(t, open(t, h.File()[:len(h.File())-back]), h.stands[2].file)
		wantFile(t, open(t, h.stands[2].file[:len(h.stands[2].file)-back]), h.stands[1].file)
	}
	for n := range 6 {
		wantFile(t, open(t, h.File()[:len(h.stands[1].file)+n]), h.stands[1].file)
		wantFile(t, open(t, h.File()[:len(h.stands[2].file)+n]), h.stands[2].file)
	}
	wantEvents(t, open(t, h.File()), h.events...)
}

// TestP10GoesOn: an archive of a file that was cut off is one like any other.
func TestP10GoesOn(t *testing.T) {
	first := begin(t)
	for i, e := range many(6) {
		first.add(t, 2, e, goes[i].e)
	}
	file := first.File()
	for n := range len(file) + 1 {
		a := open(t, file[:n])
		h := &history{Archive: a, events: all(t, a), stands: []stand{{a.File(), a.Len()}}}
		h.add(t, 3, goes[9].e, goes[10].e)
		h.add(t, 1, goes[2].e)
		wantBeginnings(t, h)
		h.migrate()
		h.add(t, 2, goes[5].e)
		wantBeginnings(t, h)
		if n%10 == 0 {
			wantMigrated(t, a)
		}
	}
}

// fresh is an archive without a past: one Append of these events, migrated.
func fresh(t *testing.T, l []api.Event) *archive.Archive {
	t.Helper()
	a := open(t, "")
	wantAppend(t, a, 3, api.OK, l...)
	a.Migrate()
	return a
}

// mostBytes is how many a file may have that Migrate wrote.
func mostBytes(l []api.Event) int {
	most, body := 40, ""
	for _, e := range l {
		change, _ := delta.Make(body, e.Body)
		most += 40 + len(e.Task) + len(strings.Join(e.Tags, "")) + len(change)
		body = e.Body
	}
	return most
}

// wantMigrated migrates an archive, and asks all that is said of that.
func wantMigrated(t *testing.T, a *archive.Archive) {
	t.Helper()
	l := all(t, a)
	a.Migrate()
	wantEvents(t, a, l...)
	wantFile(t, a, fresh(t, l).File())
	if has := len(a.File()); has > mostBytes(l) {
		t.Fatalf("a file of %d bytes, at most %d, of %.300v", has, mostBytes(l), l)
	}
	b := open(t, a.File())
	wantEvents(t, b, l...)
	wantFile(t, b, a.File())
	b.Migrate()
	wantFile(t, b, a.File())
}

func TestP10Migrate(t *testing.T) {
	one := func(e api.Event) []api.Event { return slices.Repeat([]api.Event{e}, 200) }
	other := greatest
	other.Body = "y" + sixty[2:] + "z"
	turns := one(greatest)
	for i := 0; i < len(turns); i += 2 {
		turns[i] = other
	}
	lists := [][]api.Event{nil, one(greatest)[:1], one(greatest), turns, one(goes[0].e), one(goes[10].e), many(1), many(127), many(128), many(200)}
	for _, c := range goes {
		lists = append(lists, []api.Event{c.e})
	}
	for _, l := range lists {
		a := open(t, "")
		wantAppend(t, a, 3, api.OK, l...)
		wantMigrated(t, a)
	}
}

// TestP10MigrateHangsOnEvents: not on the versions, the appends and the files that they came by.
func TestP10MigrateHangsOnEvents(t *testing.T) {
	var l []api.Event
	for i := range 12 {
		l = append(l, api.Event{Kind: 1 + i%3, Task: "t" + strconv.Itoa(i), Body: sixty[:i*5%7] + "b"})
	}
	want := fresh(t, l).File()
	for version := 1; version <= api.Newest; version++ {
		whole, single, pairs, cut := open(t, ""), open(t, ""), open(t, ""), open(t, "")
		wantAppend(t, whole, version, api.OK, l...)
		for i := range l {
			wantAppend(t, single, version, api.OK, l[i])
			wantAppend(t, single, version, api.ErrValue, api.Event{})
		}
		for i := 0; i < len(l); i += 2 {
			wantAppend(t, pairs, 1+i%3, api.OK, l[i], l[i+1])
			pairs.Migrate()
		}
		wantAppend(t, cut, version, api.OK, l...)
		wantAppend(t, cut, 3, api.OK, greatest)
		cut = open(t, cut.File()[:len(cut.File())-1])
		for _, a := range []*archive.Archive{whole, single, pairs, cut, open(t, whole.File()), open(t, single.File())} {
			wantMigrated(t, a)
			wantFile(t, a, want)
		}
	}
}

func TestP10MigrateOfNothing(t *testing.T) {
	a := open(t, "")
	wantMigrated(t, a)
	wantMigrated(t, open(t, a.File()))
	wantAppend(t, a, 1, api.OK, goes[0].e)
	wantEvents(t, open(t, a.File()), goes[0].e)
}

// holdsP10 opens a text, whatever it is, and asks what is promised of any.
func holdsP10(t *testing.T, text string) {
	t.Helper()
	a, errno := archive.Open(text)
	if errno != api.OK {
		if a != nil || errno != api.ErrFile {
			t.Fatalf("Open(%.300q) = %v, %d", text, a, errno)
		}
		return
	}
	l := all(t, a)
	// An archive takes no more than it may have, and no event that is none: so it is asked of one that does.
	b := fresh(t, l)
	wantEvents(t, open(t, a.File()), l...)
	h := &history{Archive: a, events: l, stands: []stand{{a.File(), len(l)}}}
	if room := api.MaxEvents - len(l); room >= 2 {
		h.add(t, 3, goes[9].e)
		wantAppend(t, b, 3, api.OK, goes[9].e)
		h.add(t, 1, goes[1].e)
		wantAppend(t, b, 1, api.OK, goes[1].e)
	}
	wantEvents(t, a, all(t, b)...)
	wantBeginnings(t, h)
	wantMigrated(t, a)
}

// bases are files, from which other texts are made.
func bases(t *testing.T) []string {
	a, b, c := open(t, ""), open(t, ""), open(t, "")
	wantAppend(t, a, 1, api.OK, goes[0].e, goes[1].e)
	wantAppend(t, a, 3, api.OK, goes[9].e)
	wantAppend(t, b, 2, api.OK, goes[4].e, goes[5].e, goes[6].e)
	wantAppend(t, b, 1, api.OK, goes[3].e)
	wantAppend(t, c, 3, api.OK, goes[8].e, goes[9].e, goes[5].e)
	c.Migrate()
	return []string{a.File(), b.File(), c.File()}
}

// TestP10OtherTexts puts every byte at every place, over what stands there and ahead of it, and takes every byte away.
func TestP10OtherTexts(t *testing.T) {
	for _, file := range bases(t) {
		for i := range len(file) + 1 {
			for c := range 256 {
				s := string([]byte{byte(c)})
				holdsP10(t, file[:i]+s+file[i:])
				if i < len(file) {
					holdsP10(t, file[:i]+s+file[i+1:])
				}
			}
			holdsP10(t, file[:i])
			holdsP10(t, file[i:])
			for k := i; k <= len(file); k++ {
				holdsP10(t, file[:i]+file[k:])
			}
		}
		for _, other := range bases(t) {
			holdsP10(t, file+other)
		}
	}
}

func TestP10NoFiles(t *testing.T) {
	told, _ := canon.Export(many(3)...)
	file := bases(t)[0]
	for _, text := range []string{
		"x", " ", "\n", "\x00", "\x04", "\x80", "\xff", told, "[]", "chronicle",
		strings.Repeat("\x00", 300), strings.Repeat("\xff", 300), strings.Repeat("\x80", 300), strings.Repeat("\x00", 1<<24),
		file + "\x00", file + "\x04", file + "\x80", file + "\n", "\x00" + file,
		// No event, too many, a number that is not at its shortest, one that is too great.
		"\x03\x00", "\x03\xc9\x01", "\x03\x80\x00", "\x03\x81\x00", "\x03\xff\xff\xff\xff\xff\xff\xff\xff\x7f", "\x03\xff\x7f", "\x03\xff\xff", "\x81\x00\x01",
		// No event of that version, one with its body, one that has more bytes than any.
		"\x03\x01\x00", "\x03\x01\x05\x01\x00\x02\x01t", "\x02\x01\x05\x01\x04\x02\x01t", "\x01\x01\x04b\x01tb", "\x03\x01\x08\x01\x01\x02\x01t\x04\x01b\x02\x00\x00", "\x03\x01\xff\x7f", "\x03\x01\xff\xff\xff",
		// No change, one of more than there is, one that has more bytes than any, one that makes no line.
		"\x01\x01\x03b\x01t\x00", "\x01\x01\x03b\x01t\x01\x00", "\x01\x01\x03b\x01t\x02\x01\x00", "\x01\x01\x03b\x01t\x02\x00\x01", "\x01\x01\x03b\x01t\x3f", "\x01\x01\x03b\x01t\x03\x00\x00\x7f", "\x01\x01\x03b\x01t\x03\x00\x00\x1f",
		"\x01\x02\x03b\x01t\x3e\x00\x00" + sixty + "\x03b\x01t\x03\x3c\x00x",
	} {
		if a, errno := archive.Open(text); a != nil || errno != api.ErrFile {
			t.Errorf("Open(%.100q) = %v, %d, want %d", text, a, errno, api.ErrFile)
		}
	}
}

func TestP10TooManyEvents(t *testing.T) {
	l := many(200)
	for _, n := range []int{1, 100, 199, 200} {
		a, b := open(t, ""), open(t, "")
		wantAppend(t, a, 2, api.OK, l[:n]...)
		wantAppend(t, b, 2, api.OK, l[:201-n]...)
		for _, text := range []string{a.File() + b.File(), b.File() + a.File(), a.File() + b.File() + a.File()} {
			if c, errno := archive.Open(text); c != nil || errno != api.ErrFile {
				t.Errorf("Open of 201 events = %v, %d", c, errno)
			}
		}
	}
}

func FuzzP10(f *testing.F) {
	f.Add("")
	f.Add("\x01\x02\x04f\x02ab\x08\x00\x00abcabc\x03b\x01t\x03\x02\x02X\x02\x01\x05\x01\x03\x02\x01-\x02\x00\x00")
	f.Add("\x03\x01\x0e\x01\x02\x02\x01t\x03\xac\x02\x05\x01a\x05\x01b\x04\x00\x00hi")
	f.Fuzz(holdsP10)
}
