package words_test

import (
	"math/rand"
	"slices"
	"strings"
	"testing"
	"unsafe"

	"landaid/api"
	"landaid/words"
)

// same reports whether lines have the same words.
func same(a, b [][]string) bool { return slices.EqualFunc(a, b, slices.Equal) }

// naiveSplit reads the words of a good text, one byte after the other.
func naiveSplit(text string) [][]string {
	lines, line, word, comment := [][]string{}, []string{}, "", false
	for i := range len(text) {
		c := text[i]
		if c == '#' {
			comment = true
		}
		if c != ' ' && c != '\n' && !comment {
			word += string(c)
			continue
		}
		if word != "" {
			line, word = append(line, word), ""
		}
		if c == '\n' {
			lines, line, comment = append(lines, line), []string{}, false
		}
	}
	return lines
}

// P2.2: words between spaces, lines without words, and comments.
func TestP22Split(t *testing.T) {
	for _, c := range []struct {
		text string
		want [][]string
	}{
		{"", nil},
		{"\n", [][]string{{}}},
		{"\n\n\n", [][]string{{}, {}, {}}},
		{"   \n", [][]string{{}}},
		{"a\n", [][]string{{"a"}}},
		{" a\n", [][]string{{"a"}}},
		{"a \n", [][]string{{"a"}}},
		{"   a   \n", [][]string{{"a"}}},
		{"a b\n", [][]string{{"a", "b"}}},
		{"a    b\n", [][]string{{"a", "b"}}},
		{"a b c\n", [][]string{{"a", "b", "c"}}},
		{"a a a\n", [][]string{{"a", "a", "a"}}},
		{"a\nb\n", [][]string{{"a"}, {"b"}}},
		{"a\n\nb\n", [][]string{{"a"}, {}, {"b"}}},
		{"a  b # c\n\n", [][]string{{"a", "b"}, {}}},
		{"#\n", [][]string{{}}},
		{"# a b\n", [][]string{{}}},
		{"  # a b\n", [][]string{{}}},
		{"##\n", [][]string{{}}},
		{"a # b # c\n", [][]string{{"a"}}},
		{"a#b\n", [][]string{{"a"}}},
		{"a#\n", [][]string{{"a"}}},
		{"a b#c d\ne f\n", [][]string{{"a", "b"}, {"e", "f"}}},
		{"# a\nb\n# c\nd # e\n", [][]string{{}, {"b"}, {}, {"d"}}},
		{"!\"$%&'()*+,-./ :;<=>?@ [\\]^_` {|}~ AZ 09\n", [][]string{{"!\"$%&'()*+,-./", ":;<=>?@", "[\\]^_`", "{|}~", "AZ", "09"}}},
		{"-12 007 x1\n", [][]string{{"-12", "007", "x1"}}},
	} {
		if lines, e := words.Split(c.text); !same(lines, c.want) || e != api.OK {
			t.Errorf("Split(%q): %q, %d; want %q", c.text, lines, e, c.want)
		}
	}
}

// P2.2: every byte in a word, between words, in a comment, and alone.
func TestP22SplitBytes(t *testing.T) {
	for c := range 256 {
		s := string([]byte{byte(c)})
		good := s == "\n" || c >= 32 && c <= 126
		for _, text := range []string{"a" + s + "b\n", "a " + s + " b\n", "# a" + s + "b\n", s + "a\n", "a" + s + "\n", s + "\n", "a\n" + s + "\nb\n"} {
			lines, e := words.Split(text)
			switch {
			case good && (e != api.OK || !same(lines, naiveSplit(text))):
				t.Errorf("Split(%q): %q, %d; want %q", text, lines, e, naiveSplit(text))
			case !good && (e != api.ErrForm || len(lines) != 0):
				t.Errorf("Split(%q): %q, %d; want ErrForm", text, lines, e)
			}
		}
	}
}

// P2.2: as many bytes, line feeds and words as are permitted.
func TestP22SplitAtLimits(t *testing.T) {
	long := strings.Repeat("x", api.MaxText-1)
	many := slices.Repeat([]string{"x"}, api.MaxText/2)
	for _, c := range []struct {
		name, text string
		want       [][]string
	}{
		{"a long word", long + "\n", [][]string{{long}}},
		{"a long comment", "#" + long[1:] + "\n", [][]string{{}}},
		{"many spaces", strings.Repeat(" ", api.MaxText-1) + "\n", [][]string{{}}},
		{"many words", strings.Repeat("x ", api.MaxText/2-1) + "x\n", [][]string{many}},
		{"many empty lines", strings.Repeat("\n", api.MaxLines), make([][]string, api.MaxLines)},
		{"many lines", strings.Repeat("x y#z\n", api.MaxLines), slices.Repeat([][]string{{"x", "y"}}, api.MaxLines)},
		{"many bytes and lines", strings.Repeat("\n", api.MaxLines-1) + strings.Repeat("x", api.MaxText-api.MaxLines) + "\n",
			append(make([][]string, api.MaxLines-1), []string{strings.Repeat("x", api.MaxText-api.MaxLines)})},
	} {
		if lines, e := words.Split(c.text); !same(lines, c.want) || e != api.OK {
			t.Errorf("%s: %d lines, %d", c.name, len(lines), e)
		}
	}
}

// P2.2: the limits come before the form, and there are no lines with an error.
func TestP22SplitErrors(t *testing.T) {
	feeds := strings.Repeat("\n", api.MaxLines)
	full := strings.Repeat("x", api.MaxText)
	for _, c := range []struct {
		name, text string
		want       api.Errno
	}{
		{"a byte too many", full + "\n", api.ErrLimit},
		{"a byte too many, in spaces", strings.Repeat(" ", api.MaxText) + "\n", api.ErrLimit},
		{"a byte too many, in a comment", "#" + full[1:] + "\n", api.ErrLimit},
		{"a byte too many, without an end", full + "x", api.ErrLimit},
		{"a byte too many, and a bad one", full + "\x00", api.ErrLimit},
		{"a byte too many, the first one bad", "\x00" + full[1:] + "\n", api.ErrLimit},
		{"bytes without an end", full, api.ErrForm},
		{"many bytes, the last one bad", full[1:] + "\x7f", api.ErrForm},
		{"many bytes, the first one bad", "\x7f" + full[2:] + "\n", api.ErrForm},
		{"a line feed too many", feeds + "\n", api.ErrLimit},
		{"a line feed too many, in lines", strings.Repeat("x\n", api.MaxLines+1), api.ErrLimit},
		{"a line feed too many, after comments", strings.Repeat("#\n", api.MaxLines+1), api.ErrLimit},
		{"a line feed too many, without an end", feeds + "\nx", api.ErrLimit},
		{"a line feed too many, and a bad byte", "\x00" + feeds + "\n", api.ErrLimit},
		{"lines, and a part of one", feeds + "x", api.ErrForm},
		{"lines, and a comment without an end", feeds + "#", api.ErrForm},
		{"lines, and a bad byte", "\x00" + feeds, api.ErrForm},
		{"no line feed", "a", api.ErrForm},
		{"no last line feed", "a\nb", api.ErrForm},
		{"a space after the last line feed", "a\n ", api.ErrForm},
		{"a comment without an end", "# a", api.ErrForm},
		{"a space", " ", api.ErrForm},
		{"a tabulator", "a\tb\n", api.ErrForm},
		{"a tabulator in a comment", "a #\tb\n", api.ErrForm},
		{"a carriage return", "a\r\n", api.ErrForm},
		{"a zero byte", "\x00\n", api.ErrForm},
		{"a delete byte", "a\x7f\n", api.ErrForm},
		{"a letter beyond the first 127", "ä\n", api.ErrForm},
		{"a space beyond the first 127", "a\u00a0b\n", api.ErrForm},
		{"a line separator", "a\u2028b\n", api.ErrForm},
		{"no end, and a bad byte", "a\xff", api.ErrForm},
	} {
		if lines, e := words.Split(c.text); e != c.want || len(lines) != 0 {
			t.Errorf("%s: %d lines, %d; want error %d", c.name, len(lines), e, c.want)
		}
	}
}

// P2.2: texts of words, spaces, comments and line feeds, against reading byte by byte.
func TestP22SplitAgainstNaive(t *testing.T) {
	random := rand.New(rand.NewSource(3))
	for range 50000 {
		var b strings.Builder
		for range random.Intn(30) {
			b.WriteByte("  ab#~!\n\n"[random.Intn(9)])
		}
		b.WriteByte('\n')
		text := b.String()
		want := naiveSplit(text)
		if lines, e := words.Split(text); !same(lines, want) || e != api.OK {
			t.Fatalf("Split(%q): %q, %d; want %q", text, lines, e, want)
		}
	}
}

// R2 and P2.2: lines share no memory with each other, with another result, or with the text.
func TestP22SplitNewMemory(t *testing.T) {
	text := "a b\nc d\n\ne f\n"
	want := naiveSplit(text)
	first, _ := words.Split(text)
	second, _ := words.Split(text)
	for _, line := range first {
		_ = append(line, "x", "x")
	}
	if !same(first, want) {
		t.Errorf("after the lines grew: %q", first)
	}
	for i, line := range first {
		for j := range line {
			line[j] = "y"
		}
		first[i] = nil
	}
	if !same(second, want) {
		t.Errorf("the other result: %q", second)
	}
	from := uintptr(unsafe.Pointer(unsafe.StringData(text)))
	for _, word := range slices.Concat(second...) {
		at := uintptr(unsafe.Pointer(unsafe.StringData(word)))
		if at >= from && at < from+uintptr(len(text)) {
			t.Errorf("%q is a part of the text", word)
		}
	}
}
