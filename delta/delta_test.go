package delta_test

import (
	"strings"
	"sync"
	"testing"
	"unsafe"

	"chronicle/api"
	"chronicle/delta"
)

var (
	full    = strings.Repeat("a", api.MaxData)
	tooLong = full + "a"
)

// The greatest number that can be written, the next, which cannot, and one that is not at its shortest.
const (
	greatest = "\xff\xff\xff\xff\xff\xff\xff\xff\x7f"
	beyond   = "\x80\x80\x80\x80\x80\x80\x80\x80\x80\x01"
	longOne  = "\x81\x00"
)

func wantMake(t *testing.T, old, next, change string, errno api.Errno) {
	t.Helper()
	if has, f := delta.Make(old, next); has != change || f != errno {
		t.Errorf("Make(%.20q, %.20q) = %.20q, %d, want %.20q, %d", old, next, has, f, change, errno)
	}
}

func wantApply(t *testing.T, old, change, next string, errno api.Errno) {
	t.Helper()
	if has, f := delta.Apply(old, change); has != next || f != errno {
		t.Errorf("Apply(%.20q, %.20q) = %.20q, %d, want %.20q, %d", old, change, has, f, next, errno)
	}
}

func TestP5Example(t *testing.T) {
	wantMake(t, "abcabc", "abXbc", "\x02\x02X", api.OK)
	wantMake(t, "aaa", "aa", "\x02\x00", api.OK)
	wantApply(t, "abc", "\x01\x01zz", "azzc", api.OK)
	wantApply(t, "abc", "\x02\x02", "", api.ErrData)
}

func TestP5Changes(t *testing.T) {
	many := strings.Repeat("m", 300)
	for _, c := range []struct{ old, next, change string }{
		{"", "", "\x00\x00"},
		{"", "abc", "\x00\x00abc"},
		{"abc", "", "\x00\x00"},
		{"abc", "abc", "\x03\x00"},
		{"abc", "xyz", "\x00\x00xyz"},
		{"abc", "abcd", "\x03\x00d"},
		{"abc", "ab", "\x02\x00"},
		{"abc", "zabc", "\x00\x03z"},
		{"abc", "bc", "\x00\x02"},
		{"abc", "ac", "\x01\x01"},
		{"ac", "abc", "\x01\x01b"},
		// Bytes that could count at both ends count at the front.
		{"aa", "aaaa", "\x02\x00aa"},
		{"aaaa", "aa", "\x02\x00"},
		{"abab", "ab", "\x02\x00"},
		{"aba", "aca", "\x01\x01c"},
		{"aba", "abaaba", "\x03\x00aba"},
		{"abcab", "ab", "\x02\x00"},
		{"xaab", "xab", "\x02\x01"},
		// Any byte may stand in a text.
		{"\x00\x80\xff", "\x00\x81\xff", "\x01\x01\x81"},
		{"é", "è", "\x01\x00\xa8"},
		// The numbers take two bytes from 128 on.
		{many[:127] + "x", many[:127] + "y", "\x7f\x00y"},
		{many[:128] + "x", many[:128] + "y", "\x80\x01\x00y"},
		{"x" + many[:128], "y" + many[:128], "\x00\x80\x01y"},
		{many + "x" + many, many + "yy" + many, "\xac\x02\xac\x02yy"},
	} {
		wantMake(t, c.old, c.next, c.change, api.OK)
		wantApply(t, c.old, c.change, c.next, api.OK)
	}
}

func TestP5MakeBounds(t *testing.T) {
	wantMake(t, full, full, "\x80\x80\x04\x00", api.OK)
	wantMake(t, full, "", "\x00\x00", api.OK)
	wantMake(t, "", full, "\x00\x00"+full, api.OK)
	wantMake(t, "x"+full[1:], "y"+full[1:], "\x00\xff\xff\x03y", api.OK)
	wantMake(t, tooLong, "", "", api.ErrData)
	wantMake(t, "", tooLong, "", api.ErrData)
	wantMake(t, tooLong, full, "", api.ErrData)
	wantMake(t, full, tooLong, "", api.ErrData)
	wantMake(t, tooLong, tooLong, "", api.ErrData)
}

func TestP5ApplyBounds(t *testing.T) {
	most := full[2:]
	wantApply(t, full, "\x80\x80\x04\x00", full, api.OK)
	wantApply(t, full, "\x00\x80\x80\x04", full, api.OK)
	wantApply(t, full, "\x00\x00", "", api.OK)
	wantApply(t, tooLong, "\x00\x00", "", api.ErrData)
	wantApply(t, tooLong, "\x80\x80\x04\x00", "", api.ErrData)
	wantApply(t, "b", "\x00\x00"+most, most, api.OK)
	wantApply(t, "b", "\x00\x00"+most+"a", "", api.ErrData)
	wantApply(t, "", "\x00\x00"+full, "", api.ErrData)
	wantApply(t, tooLong, "\x00\x00"+full, "", api.ErrData)
}

func TestP5ApplyAnswersBound(t *testing.T) {
	most := full[2:]
	wantApply(t, "bc", "\x01\x01"+most, "b"+most+"c", api.OK)
	wantApply(t, "bcd", "\x02\x01"+most, "", api.ErrData)
	wantApply(t, "bcd", "\x01\x02"+most, "", api.ErrData)
	wantApply(t, "bcd", "\x03\x00"+most, "", api.ErrData)
	wantApply(t, full, "\xff\xff\x03\x00x", full[1:]+"x", api.OK)
	wantApply(t, full, "\xff\xff\x03\x00xy", "", api.ErrData)
	wantApply(t, full, "\xff\xff\x03\x01x", "", api.ErrData)
	wantApply(t, full, "\x80\x80\x04\x00x", "", api.ErrData)
	wantApply(t, full, "\x00\x80\x80\x04x", "", api.ErrData)
}

func TestP5NoNumbers(t *testing.T) {
	for _, change := range []string{
		"", "\x00", "\x03", "\x80", "\x00\x80", "\xff\xff", "\x00\xff\xff",
		longOne, longOne + "\x00", "\x00" + longOne, "\x80\x00\x00", "\x00\x80\x00", "\x81\x80\x00\x00",
		beyond, beyond + "\x00", "\x00" + beyond,
		"\xff\xff\xff\xff\xff\xff\xff\xff\xff\x01\x00", "\x00\xff\xff\xff\xff\xff\xff\xff\xff\xff\x01",
		strings.Repeat("\x80", api.MaxData), strings.Repeat("\xff", api.MaxData),
	} {
		for _, old := range []string{"", "abc", full} {
			wantApply(t, old, change, "", api.ErrData)
		}
	}
}

func TestP5TooGreatNumbers(t *testing.T) {
	// 2 to the 62: twice that wraps round to less than nothing.
	const half = "\x80\x80\x80\x80\x80\x80\x80\x80\x40"
	for _, change := range []string{
		"\x04\x00", "\x00\x04", "\x01\x03", "\x03\x01", "\x02\x02", "\x03\x03", "\x7f\x7f",
		greatest + "\x00", "\x00" + greatest, greatest + "\x01", "\x01" + greatest,
		greatest + "\x04", "\x04" + greatest, greatest + greatest, half + half, half + "\x00", "\x00" + half,
		greatest + greatest + "abc", "\x02\x02abc",
	} {
		wantApply(t, "abc", change, "", api.ErrData)
	}
	wantApply(t, "", "\x01\x00", "", api.ErrData)
	wantApply(t, "", "\x00\x01", "", api.ErrData)
	wantApply(t, full, "\x81\x80\x04\x00", "", api.ErrData)
	wantApply(t, full, "\x01\x80\x80\x04", "", api.ErrData)
	wantApply(t, full, greatest+greatest, "", api.ErrData)
}

func TestP5SmallerNumbers(t *testing.T) {
	for _, c := range []struct{ change, next string }{
		{"\x00\x00abc", "abc"}, {"\x01\x00bc", "abc"}, {"\x00\x01ab", "abc"}, {"\x00\x03", "abc"}, {"\x01\x02", "abc"},
		{"\x01\x01", "ac"}, {"\x00\x00", ""}, {"\x00\x00\x00", "\x00"}, {"\x00\x03\x80", "\x80abc"}, {"\x03\x00\x80\x00", "abc\x80\x00"},
		{"\x01\x01bc\x00", "abc\x00c"},
	} {
		wantApply(t, "abc", c.change, c.next, api.OK)
	}
}

// words are all texts of a and b of up to so many bytes.
func words(most int) []string {
	all := []string{""}
	for from, n := 0, 0; n < most; n++ {
		to := len(all)
		for _, w := range all[from:to] {
			all = append(all, w+"a", w+"b")
		}
		from = to
	}
	return all
}

// bestChange tries every pair of numbers, the greatest first.
func bestChange(old, next string) string {
	for front := len(old); front >= 0; front-- {
		if !strings.HasPrefix(next, old[:front]) {
			continue
		}
		for end := len(old) - front; end >= 0; end-- {
			if strings.HasSuffix(next[front:], old[len(old)-end:]) {
				return string([]byte{byte(front), byte(end)}) + next[front:len(next)-end]
			}
		}
	}
	return "none"
}

func TestP5AllShortTexts(t *testing.T) {
	all := words(6)
	for _, old := range all {
		for _, next := range all {
			change := bestChange(old, next)
			wantMake(t, old, next, change, api.OK)
			wantApply(t, old, change, next, api.OK)
		}
	}
}

// TestP5AllShortChanges holds Apply against the document's words, at all changes of two bytes and one more.
func TestP5AllShortChanges(t *testing.T) {
	const old = "wxyz"
	for i := range 256 {
		for j := range 256 {
			change := string([]byte{byte(i), byte(j), 'm'})
			switch {
			case i < 0x80 && j < 0x80 && i+j <= len(old):
				wantApply(t, old, change, old[:i]+"m"+old[len(old)-j:], api.OK)
			default:
				// A first or second number of two bytes is at least 128, or not as numbers are written.
				wantApply(t, old, change, "", api.ErrData)
			}
		}
	}
}

func TestP2NewMemory(t *testing.T) {
	old := strings.Clone("some old text")
	change := strings.Clone("\x00\x00wholly new")
	for _, c := range []string{"\x0d\x00", "\x00\x0d", "\x04\x00", change} {
		s, errno := delta.Apply(old, c)
		if errno != api.OK || within(s, old) || within(s, c) {
			t.Errorf("Apply(%q, %q) = %q, %d: not new memory", old, c, s, errno)
		}
	}
	if s, errno := delta.Make(old, old); errno != api.OK || within(s, old) {
		t.Errorf("Make(%q, %q) = %q, %d: not new memory", old, old, s, errno)
	}
}

// within tells whether s begins in the memory of t.
func within(s, t string) bool {
	at := uintptr(unsafe.Pointer(unsafe.StringData(s)))
	from := uintptr(unsafe.Pointer(unsafe.StringData(t)))
	return at >= from && at < from+uintptr(len(t))
}

func TestP2SeveralAtOnce(t *testing.T) {
	var all sync.WaitGroup
	for range 8 {
		all.Go(func() {
			for range 50 {
				wantMake(t, "abcabc", "abXbc", "\x02\x02X", api.OK)
				wantApply(t, "abc", "\x01\x01zz", "azzc", api.OK)
			}
		})
	}
	all.Wait()
}

func FuzzP5(f *testing.F) {
	f.Add("abcabc", "abXbc")
	f.Add("abc", "\x01\x01zz")
	f.Add("abc", greatest+greatest)
	f.Fuzz(func(t *testing.T, old, other string) {
		if change, errno := delta.Make(old, other); errno == api.OK && len(change) <= api.MaxData {
			wantApply(t, old, change, other, api.OK)
		}
		if next, errno := delta.Apply(old, other); errno != api.OK && next != "" || len(next) > api.MaxData {
			t.Errorf("Apply(%q, %q) = %q, %d", old, other, next, errno)
		}
	})
}
