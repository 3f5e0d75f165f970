package words_test

import (
	"math/rand"
	"slices"
	"strings"
	"testing"

	"landaid/api"
	"landaid/words"
)

// oneLine returns lines of just one line.
func oneLine(line ...string) [][]string { return [][]string{line} }

// P2.3: single spaces between words, and a line feed after each line.
func TestP23Join(t *testing.T) {
	for _, c := range []struct {
		lines [][]string
		want  string
	}{
		{nil, ""},
		{[][]string{}, ""},
		{oneLine(), "\n"},
		{[][]string{nil, {}, nil}, "\n\n\n"},
		{oneLine("a"), "a\n"},
		{oneLine("a", "b"), "a b\n"},
		{oneLine("a", "b", "c"), "a b c\n"},
		{oneLine("a", "a"), "a a\n"},
		{[][]string{{"a", "b"}, {}}, "a b\n\n"},
		{[][]string{{}, {"a"}}, "\na\n"},
		{[][]string{{"a", "b"}, {}, {"c"}, {"d", "e"}}, "a b\n\nc\nd e\n"},
		{oneLine("-12", "007", "AZ"), "-12 007 AZ\n"},
		{oneLine("!\"$%&'()*+,-./:;<=>?@[\\]^_`{|}~"), "!\"$%&'()*+,-./:;<=>?@[\\]^_`{|}~\n"},
	} {
		if text, e := words.Join(c.lines); text != c.want || e != api.OK {
			t.Errorf("Join(%q): %q, %d; want %q", c.lines, text, e, c.want)
		}
	}
}

// P2.3: every byte alone, as the first one, in the middle, and as the last one of a word.
func TestP23JoinBytes(t *testing.T) {
	for c := range 256 {
		s := string([]byte{byte(c)})
		good := c >= 33 && c <= 126 && c != '#'
		for _, word := range []string{s, s + "a", "a" + s + "b", "a" + s} {
			want, wantErr := "", api.ErrForm
			if good {
				want, wantErr = "x "+word+" y\n", api.OK
			}
			if text, e := words.Join(oneLine("x", word, "y")); text != want || e != wantErr {
				t.Errorf("Join of %q: %q, %d; want %q, %d", word, text, e, want, wantErr)
			}
		}
	}
}

// P2.3: as many lines and bytes as are permitted, where words, spaces or line feeds make them up.
func TestP23JoinAtLimits(t *testing.T) {
	long := strings.Repeat("x", api.MaxText-1)
	rest := strings.Repeat("x", api.MaxText-api.MaxLines)
	for _, c := range []struct {
		name  string
		lines [][]string
		want  string
	}{
		{"a long word", oneLine(long), long + "\n"},
		{"two long words", oneLine(long[:8000], long[8001:]), long[:8000] + " " + long[8001:] + "\n"},
		{"many words", [][]string{slices.Repeat([]string{"x"}, api.MaxText/2)}, strings.Repeat("x ", api.MaxText/2-1) + "x\n"},
		{"many empty lines", make([][]string, api.MaxLines), strings.Repeat("\n", api.MaxLines)},
		{"many lines", slices.Repeat(oneLine("x", "y"), api.MaxLines), strings.Repeat("x y\n", api.MaxLines)},
		{"a long word, then empty lines", append(oneLine(rest), make([][]string, api.MaxLines-1)...), rest + strings.Repeat("\n", api.MaxLines)},
		{"empty lines, then a long word", append(make([][]string, api.MaxLines-1), []string{rest}), strings.Repeat("\n", api.MaxLines-1) + rest + "\n"},
	} {
		if text, e := words.Join(c.lines); text != c.want || e != api.OK {
			t.Errorf("%s: %d bytes, %d; want %d bytes", c.name, len(text), e, len(c.want))
		}
	}
}

// P2.3: the number of lines comes first, then bad words, then the number of bytes; and there is no text with an error.
func TestP23JoinErrors(t *testing.T) {
	full := strings.Repeat("x", api.MaxText)
	lines := make([][]string, api.MaxLines)
	rest := strings.Repeat("x", api.MaxText-api.MaxLines+1)
	for _, c := range []struct {
		name  string
		lines [][]string
		want  api.Errno
	}{
		{"a line too many", make([][]string, api.MaxLines+1), api.ErrLimit},
		{"a line too many, of words", slices.Repeat(oneLine("x"), api.MaxLines+1), api.ErrLimit},
		{"a line too many, the first one bad", append(oneLine(""), lines...), api.ErrLimit},
		{"a line too many, the last one bad", append(slices.Clone(lines), []string{"#"}), api.ErrLimit},
		{"a line too many, and bytes", append(oneLine(full), lines...), api.ErrLimit},
		{"lines, the last one bad", append(slices.Clone(lines[1:]), []string{"#"}), api.ErrForm},
		{"no word", oneLine(""), api.ErrForm},
		{"no word before one", oneLine("", "a"), api.ErrForm},
		{"no word after one", oneLine("a", ""), api.ErrForm},
		{"no word in a later line", [][]string{{"a"}, {}, {"b", ""}}, api.ErrForm},
		{"a space", oneLine(" "), api.ErrForm},
		{"a space in a word", oneLine("a b"), api.ErrForm},
		{"a line feed", oneLine("a\nb"), api.ErrForm},
		{"a tabulator", oneLine("a\tb"), api.ErrForm},
		{"a comment", oneLine("#"), api.ErrForm},
		{"a comment in a word", oneLine("a#b"), api.ErrForm},
		{"a comment after words", oneLine("a", "#b"), api.ErrForm},
		{"a delete byte", oneLine("a\x7f"), api.ErrForm},
		{"a letter beyond the first 127", oneLine("ä"), api.ErrForm},
		{"a bad word before too many bytes", oneLine("", full), api.ErrForm},
		{"a bad word after too many bytes", oneLine(full, ""), api.ErrForm},
		{"a bad line after too many bytes", [][]string{{full}, {"x", "#"}}, api.ErrForm},
		{"a word that is bad and too long", oneLine(full + "#"), api.ErrForm},
		{"a byte too many", oneLine(full), api.ErrLimit},
		{"a byte too many, a space", oneLine(full[:8000], full[8000:]), api.ErrLimit},
		{"a byte too many, by a line", [][]string{{full[1:]}, {}}, api.ErrLimit},
		{"a byte too many, by many lines", append(oneLine(rest), lines[1:]...), api.ErrLimit},
		{"a byte too many, by many words", [][]string{slices.Repeat([]string{"x"}, api.MaxText/2), {}}, api.ErrLimit},
		{"very many bytes", slices.Repeat(oneLine(full, full), api.MaxLines), api.ErrLimit},
	} {
		if text, e := words.Join(c.lines); e != c.want || text != "" {
			t.Errorf("%s: %d bytes, %d; want error %d", c.name, len(text), e, c.want)
		}
	}
}

// P2.3, its consequence: Split of Join is the lines, and the text of what was split is split the same.
func TestP23SplitOfJoin(t *testing.T) {
	random := rand.New(rand.NewSource(4))
	for range 5000 {
		lines := make([][]string, random.Intn(12))
		for i := range lines {
			for range random.Intn(5) {
				word := make([]byte, 1+random.Intn(6))
				for j := range word {
					word[j] = "!\"$0129:AZ[az{~"[random.Intn(15)]
				}
				lines[i] = append(lines[i], string(word))
			}
		}
		text, e := words.Join(lines)
		if e != api.OK {
			t.Fatalf("Join(%q): %d", lines, e)
		}
		back, e := words.Split(text)
		if !same(back, lines) || e != api.OK {
			t.Fatalf("Split(%q): %q, %d; want %q", text, back, e, lines)
		}
		if again, e := words.Join(back); again != text || e != api.OK {
			t.Fatalf("Join(%q): %q, %d; want %q", back, again, e, text)
		}
	}
}

// R2 and P2.3: lines and their words, with their spare capacity, stay as they are.
func TestP23JoinKeepsArguments(t *testing.T) {
	first, second := []string{"a", "b", "spare"}, []string{"c", "spare"}
	lines := [][]string{first[:2], second[:1], {"spare"}}
	for range 2 {
		if text, e := words.Join(lines[:2]); text != "a b\nc\n" || e != api.OK {
			t.Errorf("%q, %d", text, e)
		}
	}
	if want := [][]string{{"a", "b"}, {"c"}, {"spare"}}; !same(lines, want) {
		t.Errorf("the lines are %q", lines)
	}
	if want := [][]string{{"a", "b", "spare"}, {"c", "spare"}}; !same([][]string{first, second}, want) {
		t.Errorf("the words are %q, %q", first, second)
	}
}
