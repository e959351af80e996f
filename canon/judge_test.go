package canon_test

import (
	"encoding/json"
	"math/big"
	"regexp"
	"slices"
	"strings"
	"testing"

	"chronicle/api"
	"chronicle/canon"
)

// form is P7 as a pattern, but for which names an event has, and what belongs to which.
var form = regexp.MustCompile(pattern())

func pattern() string {
	s := `^_\[_(?:EVENT(?:_,_EVENT)*)?_\]_$`
	for _, c := range [][2]string{
		{"EVENT", `\{_FIELD(?:_,_FIELD)*_\}`},
		{"FIELD", `TEXT_:_(?:TEXT|LIST|NUMBER)`},
		{"LIST", `\[_(?:TEXT(?:_,_TEXT)*)?_\]`},
		{"NUMBER", `(?:0|[1-9][0-9]*)`},
		{"TEXT", `"(?:[ !#-\[\]-~]|\\["\\/]|\\u00[2-6][0-9a-fA-F]|\\u007[0-9a-eA-E])*"`},
		{"_", `[ \n\r\t]*`},
	} {
		s = strings.ReplaceAll(s, c[0], c[1])
	}
	return s
}

// judge answers what Import should, by other means.
func judge(text string) ([]api.Event, api.Errno) {
	if len(text) > api.MaxLetter || !form.MatchString(text) {
		return nil, api.ErrText
	}
	d := json.NewDecoder(strings.NewReader(text))
	d.UseNumber()
	d.Token()
	l, bad := []api.Event{}, api.OK
	for d.More() {
		e, errno := judgeEvent(d)
		if errno == api.ErrText {
			return nil, errno
		}
		bad = max(bad, errno)
		l = append(l, e)
	}
	if len(l) > 200 {
		return nil, api.ErrMany
	}
	if bad != api.OK {
		return nil, bad
	}
	return l, api.OK
}

func judgeEvent(d *json.Decoder) (e api.Event, errno api.Errno) {
	var all []string
	d.Token()
	for d.More() {
		name, _ := d.Token()
		all = append(all, name.(string))
		var v any
		if d.Decode(&v) != nil {
			return e, api.ErrText
		}
		n, isNumber := v.(json.Number)
		s, isText := v.(string)
		tags, isList := v.([]any)
		switch name {
		case "body":
			e.Body = s
		case "task":
			e.Task = s
		case "kind":
			e.Kind = slices.Index([]string{"", "begun", "done", "failed", "noted"}, s)
		case "time":
			b, _ := new(big.Int).SetString(string(n), 10)
			if isNumber && b.Cmp(big.NewInt(1<<50)) > 0 {
				errno = api.ErrValue
			} else if isNumber {
				e.Time = int(b.Int64())
			}
		case "tags":
			for _, tag := range tags {
				e.Tags = append(e.Tags, tag.(string))
			}
		}
		if isNumber != (name == "time") || isList != (name == "tags") || isText && name == "kind" && e.Kind < 1 {
			return e, api.ErrText
		}
	}
	d.Token()
	slices.Sort(all)
	if !slices.Equal(all, []string{"body", "kind", "tags", "task", "time"}) {
		return e, api.ErrText
	}
	if len(e.Task) < 1 || len(e.Task) > 60 || len(e.Body) > 60 || len(e.Tags) > 4 || !slices.IsSorted(e.Tags) || len(slices.Compact(slices.Clone(e.Tags))) != len(e.Tags) {
		errno = api.ErrValue
	}
	for _, tag := range e.Tags {
		if tag == "" || len(tag) > 60 {
			errno = api.ErrValue
		}
	}
	return e, errno
}

// holdsP7 holds Import against the judge, and what it reads against Export.
func holdsP7(t *testing.T, text string) {
	t.Helper()
	want, wanted := judge(text)
	l, errno := canon.Import(text)
	if errno != wanted || !slices.EqualFunc(l, want, same) {
		t.Fatalf("Import(%q) = %+v, %d, want %+v, %d", text, l, errno, want, wanted)
	}
	if errno != api.OK {
		return
	}
	again, errno := canon.Export(l...)
	back, backErrno := canon.Import(again)
	if errno != api.OK || backErrno != api.OK || !slices.EqualFunc(back, l, same) {
		t.Fatalf("Import(%q) = %+v, of which Export makes %q, %d, and Import of that %+v, %d", text, l, again, errno, back, backErrno)
	}
}

var bases = []string{
	strings.Join(pieces, ""), strings.Join(pieces, " "), tells(parts...), "[]",
	"[ {\"t\\u0061sk\" :\"\\\"\\\\\\/\\u007E\",\n\"kind\":\"n\\u006fted\" ,\t\"time\":1125899906842624 , \"tags\":[ ],\r\"body\":\"\" } ]",
}

// TestP7EveryByte puts every byte at every place, over what stands there and ahead of it, and takes every byte away.
func TestP7EveryByte(t *testing.T) {
	for _, text := range bases {
		for i := range len(text) + 1 {
			for c := range 256 {
				holdsP7(t, text[:i]+string([]byte{byte(c)})+text[i:])
				if i < len(text) {
					holdsP7(t, text[:i]+string([]byte{byte(c)})+text[i+1:])
				}
			}
			holdsP7(t, text[:i])
			holdsP7(t, text[i:])
			if i < len(text) {
				holdsP7(t, text[:i]+text[i+1:])
			}
		}
	}
}

// TestP7Pieces turns pieces round, doubles them and takes them away.
func TestP7Pieces(t *testing.T) {
	for i := range pieces {
		holdsP7(t, strings.Join(slices.Insert(slices.Clone(pieces), i, pieces[i]), ""))
		for k := i + 1; k < len(pieces); k++ {
			l := slices.Clone(pieces)
			l[i], l[k] = l[k], l[i]
			holdsP7(t, strings.Join(l, ""))
			holdsP7(t, strings.Join(slices.Delete(slices.Clone(pieces), i, k), ""))
		}
	}
}

func FuzzP7(f *testing.F) {
	for _, text := range bases {
		f.Add(text)
	}
	f.Fuzz(holdsP7)
}
