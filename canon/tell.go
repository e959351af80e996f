package canon

import (
	"strconv"
	"strings"

	"chronicle/api"
)

func tell(l []api.Event) string {
	return tellList(l, tellEvent)
}

func tellEvent(e api.Event) string {
	return `{"body":` + quote(e.Body) +
		`,"kind":` + quote(kinds[e.Kind-api.Begun]) +
		`,"tags":` + tellList(e.Tags, quote) +
		`,"task":` + quote(e.Task) +
		`,"time":` + strconv.Itoa(e.Time) + `}`
}

func tellList[T any](l []T, one func(T) string) string {
	var b strings.Builder
	b.WriteByte('[')
	for i, v := range l {
		if i > 0 {
			b.WriteByte(',')
		}
		b.WriteString(one(v))
	}
	b.WriteByte(']')
	return b.String()
}

func quote(s string) string {
	var b strings.Builder
	b.WriteByte('"')
	for i := range len(s) {
		if s[i] == '"' || s[i] == '\\' {
			b.WriteByte('\\')
		}
		b.WriteByte(s[i])
	}
	b.WriteByte('"')
	return b.String()
}
