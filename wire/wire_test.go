package wire

import (
	"math"
	"strings"
	"testing"
)

func TestNumber(t *testing.T) {
	for _, c := range []struct {
		n int
		s string
	}{
		{0, "\x00"}, {1, "\x01"}, {127, "\x7f"},
		{128, "\x80\x01"}, {300, "\xac\x02"}, {1<<14 - 1, "\xff\x7f"},
		{1 << 14, "\x80\x80\x01"},
		{1 << 50, "\x80\x80\x80\x80\x80\x80\x80\x02"},
		{math.MaxInt64, "\xff\xff\xff\xff\xff\xff\xff\xff\x7f"},
	} {
		if s := Number(c.n); s != c.s {
			t.Errorf("Number(%d) = %x, want %x", c.n, s, c.s)
		}
		n, rest, ok := ReadNumber(c.s + "rest")
		if n != c.n || rest != "rest" || !ok {
			t.Errorf("ReadNumber(%x) = %d, %q, %t, want %d", c.s, n, rest, ok, c.n)
		}
	}
}

func TestNoNumber(t *testing.T) {
	for _, s := range []string{
		"", "\x80", "\xff\xff", "\x80\x00", "\x81\x80\x00", "\x80\x00\x01",
		"\xff\xff\xff\xff\xff\xff\xff\xff\xff",
		"\x80\x80\x80\x80\x80\x80\x80\x80\x80\x01",
		"\xff\xff\xff\xff\xff\xff\xff\xff\xff\x01",
		strings.Repeat("\x80", 1000) + "\x01",
	} {
		if n, rest, ok := ReadNumber(s); n != 0 || rest != "" || ok {
			t.Errorf("ReadNumber(%x) = %d, %q, %t", s, n, rest, ok)
		}
	}
}

func TestText(t *testing.T) {
	long := strings.Repeat("x", 200)
	for _, c := range []struct{ text, s string }{
		{"", "\x00"}, {"a", "\x01a"}, {"\x00\xff", "\x02\x00\xff"}, {long, "\xc8\x01" + long},
	} {
		if s := Text(c.text); s != c.s {
			t.Errorf("Text(%q) = %x, want %x", c.text, s, c.s)
		}
		text, rest, ok := ReadText(c.s + "rest")
		if text != c.text || rest != "rest" || !ok {
			t.Errorf("ReadText(%x) = %q, %q, %t", c.s, text, rest, ok)
		}
	}
}

func TestNoText(t *testing.T) {
	for _, s := range []string{
		"", "\x01", "\x02a", "\x80", "\x81\x00a",
		"\xff\xff\xff\xff\xff\xff\xff\xff\x7fa",
	} {
		if text, rest, ok := ReadText(s); text != "" || rest != "" || ok {
			t.Errorf("ReadText(%x) = %q, %q, %t", s, text, rest, ok)
		}
	}
}
