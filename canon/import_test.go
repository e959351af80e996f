package canon_test

import (
	"slices"
	"strconv"
	"strings"
	"sync"
	"testing"
	"unsafe"

	"chronicle/api"
	"chronicle/canon"
)

// The parts of a told event, and what they tell.
var (
	parts = []string{`"body":"x"`, `"kind":"done"`, `"tags":["a"]`, `"task":"t"`, `"time":7`}
	it    = api.Event{Kind: api.Done, Task: "t", Time: 7, Body: "x", Tags: []string{"a"}}
)

func tells(parts ...string) string { return "[{" + strings.Join(parts, ",") + "}]" }

// with is the told event, with something else for one thing in it.
func with(old, other string) string {
	text := tells(parts...)
	if strings.Count(text, old) != 1 {
		panic(old)
	}
	return strings.Replace(text, old, other, 1)
}

func wantOne(t *testing.T, text string, change func(e *api.Event)) {
	t.Helper()
	e := it
	change(&e)
	wantImport(t, text, []api.Event{e}, api.OK)
}

func wantErrText(t *testing.T, texts ...string) {
	t.Helper()
	for _, text := range texts {
		wantImport(t, text, nil, api.ErrText)
	}
}

func TestP7Texts(t *testing.T) {
	for _, c := range told {
		wantImport(t, c.text, c.l, api.OK)
	}
	wantImport(t, tells(parts...), []api.Event{it}, api.OK)
	wantImport(t, " [ {\"time\" : 0,\n\"task\":\"ab\",\t\"tags\":[ ], \"kind\": \"failed\",\r\n\"body\":\"x\" } ]\n", []api.Event{{Kind: api.Failed, Task: "ab", Body: "x"}}, api.OK)
}

// pieces are the signs, words, numbers and quoted texts of two events.
var pieces = []string{
	`[`, `{`, `"body"`, `:`, `"x y"`, `,`, `"kind"`, `:`, `"done"`, `,`, `"tags"`, `:`, `[`, `"a"`, `,`, `"b"`, `]`, `,`, `"task"`, `:`, `"\\\u0074"`, `,`, `"time"`, `:`, `70`, `}`,
	`,`, `{`, `"body"`, `:`, `""`, `,`, `"kind"`, `:`, `"noted"`, `,`, `"tags"`, `:`, `[`, `]`, `,`, `"task"`, `:`, `"t"`, `,`, `"time"`, `:`, `0`, `}`, `]`,
}

var ofPieces = []api.Event{
	{Kind: api.Done, Task: `\t`, Time: 70, Body: "x y", Tags: []string{"a", "b"}},
	{Kind: api.Noted, Task: "t"},
}

func TestP7Blanks(t *testing.T) {
	for _, blank := range []string{"", " ", "\n", "\r", "\t", "\r\n", " \t \n \r ", strings.Repeat("\n", 1000)} {
		for i := range len(pieces) + 1 {
			wantImport(t, strings.Join(pieces[:i], "")+blank+strings.Join(pieces[i:], ""), ofPieces, api.OK)
		}
		wantImport(t, blank+strings.Join(pieces, blank)+blank, ofPieces, api.OK)
		wantImport(t, blank+"["+blank+"]"+blank, nil, api.OK)
	}
}

func TestP7NoBlanks(t *testing.T) {
	for _, c := range []string{"\x00", "\x08", "\x0b", "\x0c", "\x1f", "\x7f", "\x80", "\x85", "\xa0", "\xff", "\u0085", "\u00a0", "\u2003", "\u2028", "\ufeff", "/**/", "//\n", "#\n", "\\n", "x", "_", "'", "-", "+", ".", ";"} {
		for i := range len(pieces) + 1 {
			wantErrText(t, strings.Join(pieces[:i], "")+c+strings.Join(pieces[i:], ""))
		}
		wantErrText(t, c, c+"[]", "["+c+"]", "[]"+c, " "+c+" [] ", "[] "+c+" ")
	}
}

func TestP7BlanksWithin(t *testing.T) {
	for i, piece := range pieces {
		for at := 1; at < len(piece); at++ {
			front, end := strings.Join(pieces[:i], "")+piece[:at], piece[at:]+strings.Join(pieces[i+1:], "")
			wantErrText(t, front+"\n"+end, front+"\r"+end, front+"\t"+end)
			// A blank in a quoted text is one of its bytes.
			holdsP7(t, front+" "+end)
		}
	}
	wantOne(t, with(`"x"`, `" x "`), func(e *api.Event) { e.Body = " x " })
	wantErrText(t, with("body", "body "), with("body", " body"), with("done", "done "), with("done", " done"), with("7", "7 7"))
}

func orders(l []string) [][]string {
	if len(l) == 0 {
		return [][]string{nil}
	}
	var all [][]string
	for i, first := range l {
		for _, rest := range orders(slices.Delete(slices.Clone(l), i, i+1)) {
			all = append(all, append([]string{first}, rest...))
		}
	}
	return all
}

func TestP7AnyOrder(t *testing.T) {
	all := orders(parts)
	if len(all) != 120 {
		t.Fatal(len(all))
	}
	for _, order := range all {
		wantImport(t, tells(order...), []api.Event{it}, api.OK)
	}
}

func TestP7NamesOnce(t *testing.T) {
	others := []string{`"time":8`, `"body":"y"`, `"kind":"begun"`, `"tags":[]`, `"task":"u"`, `"more":1`, `"":""`}
	wantErrText(t, tells(), "[{},{}]")
	for i := range parts {
		rest := slices.Delete(slices.Clone(parts), i, i+1)
		wantErrText(t, tells(rest...), tells(parts[i]))
		for _, again := range slices.Concat(parts, others) {
			for at := range len(parts) + 1 {
				wantErrText(t, tells(slices.Insert(slices.Clone(parts), at, again)...))
			}
			if strings.HasPrefix(again, parts[i][:len(`"body"`)]) {
				continue
			}
			for at := range len(rest) + 1 {
				wantErrText(t, tells(slices.Insert(slices.Clone(rest), at, again)...))
			}
		}
	}
}

func TestP7NamesAsTheyAre(t *testing.T) {
	for _, name := range []string{"body", "kind", "tags", "task", "time"} {
		wantErrText(t,
			with(name, ""), with(name, name[1:]), with(name, name[:3]), with(name, name+"s"), with(name, " "+name), with(name, strings.ToUpper(name)), with(name, strings.ToUpper(name[:1])+name[1:]),
			with(`"`+name+`"`, name), with(`"`+name+`"`, "'"+name+"'"), with(`"`+name+`":`, ``), with(`"`+name+`":`, `"`+name+`"`), with(`"`+name+`":`, `"`+name+`"=`), with(`"`+name+`":`, `"`+name+`"::`), with(`"`+name+`"`, "1"), with(`"`+name+`"`, "[]"),
		)
	}
}

func TestP7Kinds(t *testing.T) {
	for i, kind := range []string{"begun", "done", "failed", "noted"} {
		wantOne(t, with("done", kind), func(e *api.Event) { e.Kind = api.Begun + i })
		wantErrText(t, with("done", kind[1:]), with("done", kind+kind), with("done", strings.ToUpper(kind)), with("done", strings.ToUpper(kind[:1])+kind[1:]), with("done", kind+" "), with(`"done"`, kind))
	}
	wantErrText(t,
		with("done", ""), with("done", "1"), with("done", "begun,done"), with("done", sixtyOne),
		with(`"done"`, "2"), with(`"done"`, "null"), with(`"done"`, `["done"]`), with(`"done"`, `{}`), with(`"done"`, ""), with(`"done"`, "true"),
	)
}

// codes are the ways to write a byte by its number.
func codes(c byte) []string {
	hex := strconv.FormatInt(0x100|int64(c), 16)[1:]
	low, up := strings.ToLower(hex), strings.ToUpper(hex)
	return []string{`\u00` + low, `\u00` + up, `\u00` + low[:1] + up[1:], `\u00` + up[:1] + low[1:]}
}

func TestP7Codes(t *testing.T) {
	for c := range 256 {
		s := string([]byte{byte(c)})
		for _, code := range codes(byte(c)) {
			if c < 0x20 || c > 0x7e {
				wantErrText(t, with(`"x"`, `"`+code+`"`), with(`"t"`, `"`+code+`"`), with(`"a"`, `"`+code+`"`), with("body", "body"+code), with("done", "done"+code))
				continue
			}
			wantOne(t, with(`"x"`, `"`+code+`"`), func(e *api.Event) { e.Body = s })
			wantOne(t, with(`"t"`, `"-`+code+`-"`), func(e *api.Event) { e.Task = "-" + s + "-" })
			wantOne(t, with(`"a"`, `"`+code+code+`"`), func(e *api.Event) { e.Tags = []string{s + s} })
		}
	}
}

func TestP7CodesInNamesAndKinds(t *testing.T) {
	for _, word := range []string{"body", "kind", "tags", "task", "time", "done"} {
		var low, up strings.Builder
		for i := range len(word) {
			all := codes(word[i])
			for _, code := range all {
				wantImport(t, with(word, word[:i]+code+word[i+1:]), []api.Event{it}, api.OK)
			}
			wantErrText(t, with(word, word[:i]+codes(word[i] - 0x20)[0]+word[i+1:]))
			low.WriteString(all[0])
			up.WriteString(all[1])
		}
		wantImport(t, with(word, low.String()), []api.Event{it}, api.OK)
		wantImport(t, with(word, up.String()), []api.Event{it}, api.OK)
		wantErrText(t, with(word, word+`\/`), with(word, word+`\"`), with(word, word+`\\`), with(word, word+`\`))
	}
	// A name that is written twice is there twice, however it is written.
	wantErrText(t, tells(append(slices.Clone(parts), `"\u0074ime":7`)...))
}

// TestP7EveryByteInQuotes has all bytes in quotes, and all behind a \.
func TestP7EveryByteInQuotes(t *testing.T) {
	for c := range 256 {
		s := string([]byte{byte(c)})
		for _, at := range []string{`"x"`, `"t"`, `"a"`} {
			behind, plain := with(at, `"\`+s+`"`), with(at, `"`+s+`"`)
			set := func(e *api.Event) {
				switch at {
				case `"x"`:
					e.Body = s
				case `"t"`:
					e.Task = s
				default:
					e.Tags = []string{s}
				}
			}
			if s == `"` || s == `\` || s == `/` {
				wantOne(t, behind, set)
			} else {
				wantErrText(t, behind)
			}
			if c >= 0x20 && c <= 0x7e && s != `"` && s != `\` {
				wantOne(t, plain, set)
			} else {
				wantErrText(t, plain)
			}
		}
		if s != "b" {
			wantErrText(t, with(`"body"`, `"`+s+`ody"`), with(`"body"`, `"\`+s+`ody"`))
		}
		wantErrText(t, with(`"done"`, `"\`+s+`done"`), with(`"done"`, `"done`+s+`"`))
	}
}

func TestP7NoCodes(t *testing.T) {
	for _, s := range []string{
		`\`, `\u`, `\u0`, `\u00`, `\u004`, `\u00 41`, `\u 0041`, `\u0141`, `\u1041`, `\u4100`, `\uff41`, `\U0041`, `\x41`, `\101`, `\u{41}`, `\u+041`, `\u-041`,
		`\u00+4`, `\u00-4`, `\u00_4`, `\u004_`, `\u00g1`, `\u004g`, `\u00G1`, `\u004G`, `\u00/0`, `\u00:0`, `\u00@1`, "\\u00`1", `\u000x`, `\u00x4`, `\u00\u0034`, `\ud83d`, `\u0000`, `\n`, `\t`, `\b`, `\f`, `\r`, `\'`, `\ `, `\0`, `\a`,
	} {
		wantErrText(t, with(`"x"`, `"`+s+`"`), with(`"t"`, `"a`+s+`"`), with(`"a"`, `"`+s+`"`), with(`"task"`, `"task`+s+`"`), with(`"done"`, `"done`+s+`"`))
	}
	wantOne(t, with(`"x"`, `"\u00410"`), func(e *api.Event) { e.Body = "A0" })
	wantOne(t, with(`"x"`, `"\u005cu0041"`), func(e *api.Event) { e.Body = `\u0041` })
	wantOne(t, with(`"x"`, `"\\u0041\u0022\/\u002f"`), func(e *api.Event) { e.Body = `\u0041"//` })
}

func TestP7Numbers(t *testing.T) {
	for _, n := range []int{0, 1, 9, 10, 99, 100, 1 << 31, 1 << 32, api.MaxTime - 1, api.MaxTime} {
		wantOne(t, with(":7", ":"+strconv.Itoa(n)), func(e *api.Event) { e.Time = n })
	}
	for _, s := range []string{
		"", "-1", "-0", "+1", "+0", "--1", "00", "01", "007", "0" + strings.Repeat("9", 100), strings.Repeat("0", 100), "1.", "1.0", ".5", "0.0", "1e3", "1E3", "0e0", "0x1", "0b1", "0o7", "1_0", "1 2", "1,2", "1'0", "1n",
		"\"7\"", "\"\"", "null", "true", "[]", "[7]", "{}", "a", "7a", "a7", "½", "٣", "Infinity", "NaN", "\xff", "7\xff", "/", ":",
		strings.Repeat("9", 5000) + ".", "-" + strings.Repeat("9", 5000), strings.Repeat("9", 5000) + "e1",
	} {
		wantErrText(t, with(":7", ":"+s))
	}
}

func TestP7NumbersOfAnyLength(t *testing.T) {
	for _, s := range []string{
		"1125899906842625", "1125899906842630", "9007199254740993", "9223372036854775807", "9223372036854775808", "18446744073709551615", "18446744073709551616", "18446744073709551623", "36893488147419103232", "340282366920938463463374607431768211456",
		"1" + strings.Repeat("0", 64), strings.Repeat("9", 5000), "1" + strings.Repeat("0", 1000000),
	} {
		wantImport(t, with(":7", ":"+s), nil, api.ErrValue)
	}
}

// TestP7Wrap: numbers whose last 64 bits would be those of a time.
func TestP7Wrap(t *testing.T) {
	for _, s := range []string{"18446744073709551616", "18446744073709551617", "36893488147419103239", "184467440737095516160", "1180591620717411303424"} {
		wantImport(t, with(":7", ":"+s), nil, api.ErrValue)
		wantImport(t, with(":7", ":"+s+s), nil, api.ErrValue)
	}
}

func TestP7BeyondBounds(t *testing.T) {
	long := strings.Repeat("x", 100000)
	for _, text := range []string{
		with(`"t"`, `""`), with(`"t"`, `"`+sixtyOne+`"`), with(`"t"`, `"`+long+`"`), with(`"t"`, `"`+sixty+`\u0078"`), with(`"t"`, `"`+sixty+`\/"`),
		with(`"x"`, `"`+sixtyOne+`"`), with(`"x"`, `"`+long+`"`),
		with(`["a"]`, `[""]`), with(`["a"]`, `["","a"]`), with(`["a"]`, `["`+sixtyOne+`"]`), with(`["a"]`, `["a","`+long+`"]`),
		with(`["a"]`, `["a","a"]`), with(`["a"]`, `["a","\u0061"]`), with(`["a"]`, `["b","a"]`), with(`["a"]`, `["a","c","b"]`), with(`["a"]`, `["a","A"]`), with(`["a"]`, `["aa","a"]`),
		with(`["a"]`, `["a","b","c","d","e"]`), with(`["a"]`, `[`+strings.Repeat(`"",`, 100000)+`""]`),
		with(":7", ":1125899906842625"),
	} {
		wantImport(t, text, nil, api.ErrValue)
		wantErrText(t, text[:len(text)-1], text+"]", strings.Replace(text, "done", "gone", 1))
	}
}

func TestP7WithinBounds(t *testing.T) {
	wantOne(t, with(`"t"`, `"`+sixty+`"`), func(e *api.Event) { e.Task = sixty })
	wantOne(t, with(`"x"`, `""`), func(e *api.Event) { e.Body = "" })
	wantOne(t, with(`"x"`, `"`+sixty+`"`), func(e *api.Event) { e.Body = sixty })
	wantOne(t, with(`"x"`, `"`+strings.Repeat(`\u0078`, 60)+`"`), func(e *api.Event) { e.Body = sixty })
	wantOne(t, with(`["a"]`, `[]`), func(e *api.Event) { e.Tags = nil })
	wantOne(t, with(`["a"]`, `["`+sixty[1:]+`","`+sixty+`"]`), func(e *api.Event) { e.Tags = []string{sixty[1:], sixty} })
	wantOne(t, with(`["a"]`, `["A","a","aa","b"]`), func(e *api.Event) { e.Tags = []string{"A", "a", "aa", "b"} })
}

func TestP7NoTexts(t *testing.T) {
	one := tells(parts...)
	e := one[1 : len(one)-1]
	wantErrText(t,
		"", " ", "\n", "[", "]", "[]]", "[[]", "[[]]", "[][]", "[],", ",[]", "[,]", "{}", "[{}]", "{[]}", "()", "null", "0", `""`, `[""]`, "[0]", "[null]", "x", "[x]", "\xef\xbb\xbf[]",
		e, e+"]", "["+e, "[,"+e+"]", "["+e+",]", "["+e+",,"+e+"]", "["+e+e+"]", "["+e+" "+e+"]", "["+e+";"+e+"]", "["+e+"],", "["+e+"]]", "[["+e+"]]", "["+e+",[]]", "["+e+",null]", one+one,
		with("{", ""), with("{", "{{"), with("{", "{,"), with("}", ""), with("}", "}}"), with("}", ",}"), with("{", "["), with("}", "]"),
	)
	for _, tags := range []string{"", `"a"`, "{}", `{"a"}`, "null", "0", "[", "]", "[,]", `["a",]`, `[,"a"]`, `["a","b",]`, `["a",,"b"]`, `["a" "b"]`, `["a""b"]`, `["a";"b"]`, `[["a"]]`, `["a",["b"]]`, `["a"]]`, `[["a"]`, `[a]`, `[1]`, `["a",1]`, `[null]`, `["a"`, `"a"]`, `["a`, `[a"]`, `['a']`, `["a":"b"]`} {
		wantErrText(t, with(`["a"]`, tags))
	}
	for _, text := range []string{"", "x", "null", "1", `"`, `"x`, `x"`, `""x`, `"""`, `"x""`, `'x'`, "`x`", `["x"]`, `{"x"}`, `"x""y"`, `"x" "y"`, `"x"+"y"`, `\"x\"`} {
		wantErrText(t, with(`"x"`, text), with(`"t"`, text))
	}
}

func TestP7CutOff(t *testing.T) {
	text := strings.Join(pieces, "")
	for i := range text {
		wantErrText(t, text[:i], text[i+1:])
	}
}

func TestP7HowLong(t *testing.T) {
	one := tells(parts...)
	for _, text := range []string{"[]", one} {
		l := []api.Event{it}[:strings.Count(text, "{")]
		room := strings.Repeat(" ", api.MaxLetter-len(text))
		wantImport(t, room+text, l, api.OK)
		wantImport(t, text+room, l, api.OK)
		wantImport(t, text[:1]+room+text[1:], l, api.OK)
		wantErrText(t, room+text+" ", " "+text+room, text[:1]+room+" "+text[1:], room+room+text)
	}
	body := strings.Repeat("x", api.MaxLetter-len(with("x", "")))
	wantImport(t, with("x", body), nil, api.ErrValue)
	wantErrText(t, with("x", body+"x"))
	wantErrText(t, strings.Repeat("[", api.MaxLetter), strings.Repeat(`"`, api.MaxLetter), strings.Repeat("{", api.MaxLetter), strings.Repeat("9", api.MaxLetter), strings.Repeat(`\`, api.MaxLetter), strings.Repeat(" ", api.MaxLetter), strings.Repeat("[", 1<<24))
}

func TestP7HowMany(t *testing.T) {
	e := strings.Trim(tells(parts...), "[]")
	list := func(n int) string { return "[" + strings.Repeat(e+",", n-1) + e + "]" }
	wantImport(t, list(200), slices.Repeat([]api.Event{it}, 200), api.OK)
	for _, n := range []int{201, 202, 10000} {
		wantImport(t, list(n), nil, api.ErrMany)
	}
	least := strings.Trim(with(`"t"`, `""`), "[]")
	wantImport(t, "["+least+strings.Repeat(","+least, 15000)+"]", nil, api.ErrMany)
}

func TestP1ImportsErrorsInOrder(t *testing.T) {
	e := strings.Trim(tells(parts...), "[]")
	wrong, nothing := `{"body":"x"}`, strings.Trim(with(`"t"`, `""`), "[]")
	list := func(last string, n int, first string) string {
		return "[" + first + strings.Repeat(","+e, n-2) + "," + last + "]"
	}
	wantImport(t, list(nothing, 200, e), nil, api.ErrValue)
	wantImport(t, list(e, 200, nothing), nil, api.ErrValue)
	wantImport(t, list(nothing, 201, e), nil, api.ErrMany)
	wantImport(t, list(e, 201, nothing), nil, api.ErrMany)
	wantErrText(t, list(wrong, 200, nothing), list(nothing, 200, wrong), list(wrong, 201, nothing), list(nothing, 201, wrong), list(wrong, 1000, e))
	wantErrText(t, list(e, 201, e)+"x", list(nothing, 200, e)+"x", list(e, 201, e)+strings.Repeat(" ", api.MaxLetter), list(nothing, 200, e)+strings.Repeat(" ", api.MaxLetter))
}

func TestP2ImportsNewMemory(t *testing.T) {
	text := strings.Clone(strings.Join(pieces, ""))
	first, _ := canon.Import(text)
	second, _ := canon.Import(text)
	for _, e := range first {
		for _, s := range append([]string{e.Task, e.Body}, e.Tags...) {
			if within(s, text) {
				t.Errorf("%q is a piece of what was handed in", s)
			}
		}
	}
	room := first[:cap(first)]
	for i := range room {
		tags := room[i].Tags[:cap(room[i].Tags)]
		for k := range tags {
			tags[k] = "mine"
		}
		room[i] = api.Event{Kind: 9, Task: "mine", Tags: tags}
	}
	if !slices.EqualFunc(second, ofPieces, same) {
		t.Errorf("writing into one answer made another one %+v", second)
	}
	wantImport(t, text, ofPieces, api.OK)
}

// within tells whether s begins in the memory of t.
func within(s, t string) bool {
	at := uintptr(unsafe.Pointer(unsafe.StringData(s)))
	from := uintptr(unsafe.Pointer(unsafe.StringData(t)))
	return at >= from && at < from+uintptr(len(t))
}

// TestP2ListsApart: no two lists of one answer lie in one another's room.
func TestP2ListsApart(t *testing.T) {
	want := many(100)
	text, _ := canon.Export(want...)
	l, _ := canon.Import(text)
	for i := range l {
		room := l[i].Tags[:cap(l[i].Tags)]
		for k := range room {
			room[k] = "mine"
		}
		if !slices.EqualFunc(l[i+1:], want[i+1:], same) {
			t.Fatalf("writing into the tags of event %d changed those behind it", i)
		}
	}
}

func TestP2SeveralAtOnce(t *testing.T) {
	var all sync.WaitGroup
	for range 8 {
		all.Go(func() {
			for range 20 {
				wantErrText(t, "[x]")
				for _, c := range told {
					wantImport(t, c.text, c.l, api.OK)
					wantExport(t, c.l, c.text, api.OK)
				}
				wantExport(t, none[:1], "", api.ErrValue)
			}
		})
	}
	all.Wait()
}
