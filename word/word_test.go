package word_test

import (
	"math"
	"math/rand"
	"slices"
	"strings"
	"testing"

	"aquatint/api"
	"aquatint/word"
)

// broken has texts that are no UTF-8: cut, too long, surrogates, too great, lone.
var broken = []string{"\xff", "a\x80", "\xc3", "\xc0\x80", "\xe0\x80\x80", "\xed\xa0\x80", "\xf4\x90\x80\x80", "\xf0\x8f\xbf\xbf", "ok\xe4\xb8"}

// P2.1: signs, not bytes.
func TestCount(t *testing.T) {
	for s, want := range map[string]int{"": 0, "a": 1, "größe": 5, "中文": 2, "\U0010FFFF\uFFFD": 2, "\x00\n": 2, "e\u0301": 2} {
		if n, e := word.Count(s); n != want || e != api.OK {
			t.Errorf("Count(%q) = %d, %d", s, n, e)
		}
	}
	for _, s := range broken {
		if n, e := word.Count(s); n != 0 || e != api.ErrForm {
			t.Errorf("Count(%q) = %d, %d", s, n, e)
		}
	}
}

// P2.1: the first signs.
func TestClip(t *testing.T) {
	cases := []struct {
		s    string
		n    int
		want string
	}{
		{"größe", 3, "grö"}, {"größe", 4, "größ"}, {"größe", 5, "größe"}, {"größe", 6, "größe"},
		{"größe", math.MaxInt, "größe"}, {"größe", 0, ""}, {"größe", -1, ""}, {"größe", math.MinInt, ""},
		{"", 3, ""}, {"中文", 1, "中"}, {"abc", 1, "a"},
	}
	for _, c := range cases {
		if s := word.Clip(c.s, c.n); s != c.want {
			t.Errorf("Clip(%q, %d) = %q", c.s, c.n, s)
		}
	}
	for _, s := range broken {
		if c := word.Clip(s, 1); c != "" {
			t.Errorf("Clip(%q) = %q", s, c)
		}
	}
}

// inName tells by the chapter's words whether a sign may stand in a name.
func inName(c int) bool {
	in := func(a, b int) bool { return c >= a && c <= b }
	if c == 0xD7 || c == 0xF7 {
		return false
	}
	return in('a', 'z') || in('A', 'Z') || in('0', '9') || strings.ContainsRune("-_./", rune(c)) ||
		in(0xC0, 0x24F) || in(0x370, 0x3FF) || in(0x400, 0x4FF) || in(0x4E00, 0x9FFF)
}

// P2.2: each sign in a name: in the midst, at the front, at the end.
func TestNameSigns(t *testing.T) {
	for c := 0; c <= 0xFFFF; c++ {
		if c >= 0xD800 && c <= 0xDFFF {
			continue
		}
		s := string(rune(c))
		if word.Name("a"+s+"a") != inName(c) {
			t.Errorf("Name with %x in its midst", c)
		}
		if word.Name(s+"a") != (inName(c) && c != '-' && c != '.' && c != '/') {
			t.Errorf("Name with %x at its front", c)
		}
		if word.Name("a"+s) != (inName(c) && c != '.' && c != '/') {
			t.Errorf("Name with %x at its end", c)
		}
	}
}

// P2.2: the bounds of names.
func TestName(t *testing.T) {
	cases := map[string]bool{
		"": false, "a": true, "main/ä": true, "a/b/c": true, "a//b": false, "a/b//": false, "/": false, "-": false, "_": true,
		"a-": true, "a.b": true, "a..b": true, "a/.b": true, "a./b": true, "a/-b": true, "Привет": true, "λόγος": true, "中文": true, "a b": false,
		strings.Repeat("a", 40): true, strings.Repeat("a", 41): false,
		strings.Repeat("中", 40): true, strings.Repeat("中", 41): false,
		strings.Repeat("a", 39) + "/": false, "\U00010400": false,
	}
	for s, want := range cases {
		if word.Name(s) != want {
			t.Errorf("Name(%q) = %v", s, !want)
		}
	}
	for _, s := range broken {
		if word.Name(s) {
			t.Errorf("Name(%q)", s)
		}
	}
}

// P2.2: messages.
func TestText(t *testing.T) {
	for c := range 0x200 {
		want := c == '\n' || c >= 0x20 && c < 0x7F || c > 0x9F
		if word.Text("a"+string(rune(c))) != want {
			t.Errorf("Text with %x", c)
		}
	}
	cases := map[string]bool{
		"": true, "two\nlines": true, "\U0010FFFF": true, "\uFFFD": true,
		strings.Repeat("ä", 200): true, strings.Repeat("ä", 201): false, strings.Repeat(" ", 201): false,
	}
	for s, want := range cases {
		if word.Text(s) != want {
			t.Errorf("Text(%q) = %v", s, !want)
		}
	}
	for _, s := range broken {
		if word.Text(s) {
			t.Errorf("Text(%q)", s)
		}
	}
}

// P2.3: quotes.
func TestQuote(t *testing.T) {
	cases := map[string]string{
		"": `""`, "a b": `"a b"`, `say "hi"`: `"say \"hi\""`, `a\b`: `"a\\b"`, "a\nb": `"a\nb"`,
		"\x00": `"\u{0}"`, "\t": `"\u{9}"`, "\x0b": `"\u{b}"`, "\x1f": `"\u{1f}"`, "\x10": `"\u{10}"`, " ": `" "`,
		"\x7f": `"\u{7f}"`, "\u0080": `"\u{80}"`, "\u009f": `"\u{9f}"`, "\u00a0": "\"\u00a0\"", "~": `"~"`,
		"größe中": `"größe中"`, "\U0010FFFF": "\"\U0010FFFF\"", "\uFFFD": "\"\uFFFD\"",
	}
	for s, want := range cases {
		if q, e := word.Quote(s); q != want || e != api.OK {
			t.Errorf("Quote(%q) = %s, %d", s, q, e)
		}
	}
	for _, s := range broken {
		if q, e := word.Quote(s); q != "" || e != api.ErrForm {
			t.Errorf("Quote(%q) = %s, %d", s, q, e)
		}
	}
}

// P2.4: the words of good lines.
func TestWords(t *testing.T) {
	cases := []struct {
		s    string
		want []string
	}{
		{"", nil}, {"   ", nil}, {"a", []string{"a"}}, {"  a  b ", []string{"a", "b"}},
		{`a "b c" \u{e9}`, []string{"a", "b c", `\u{e9}`}},
		{`""`, []string{""}}, {`"" ""`, []string{"", ""}}, {`a\"`, nil},
		{`"\"\\\n\u{0}\u{9}\u{7f}\u{9f}"`, []string{"\"\\\n\x00\t\x7f\u009f"}},
		{"größe 中\u00a0文", []string{"größe", "中\u00a0文"}},
		{"\uFFFD", []string{"\uFFFD"}},
		{strings.Repeat("x ", 50), strings.Split(strings.Repeat("x ", 49)+"x", " ")},
	}
	for _, c := range cases {
		w, at, e := word.Words(c.s)
		if c.s == `a\"` {
			if w != nil || at != 2 || e != api.ErrForm {
				t.Errorf("Words(%q) = %q, %d, %d", c.s, w, at, e)
			}
			continue
		}
		if !slices.Equal(w, c.want) || at != 0 || e != api.OK {
			t.Errorf("Words(%q) = %q, %d, %d", c.s, w, at, e)
		}
	}
}

// P2.4: faults, and where they are met.
func TestWordsWrong(t *testing.T) {
	fifty := strings.Repeat("x ", 50)
	cases := []struct {
		s  string
		at int
		e  api.Errno
	}{
		{"\xff", 0, api.ErrForm}, {"ab\xc3", 2, api.ErrForm}, {"a \xed\xa0\x80", 2, api.ErrForm}, {`"a` + "\x80", 2, api.ErrForm},
		{"a\tb", 1, api.ErrForm}, {"\n", 0, api.ErrForm}, {"a \x00", 2, api.ErrForm}, {"é\x7f", 2, api.ErrForm}, {"é\u0080", 2, api.ErrForm}, {"\u009f", 0, api.ErrForm},
		{"\"\n\"", 1, api.ErrForm}, {"\"a\u0085\"", 2, api.ErrForm}, {"\"\x1f", 1, api.ErrForm},
		{`ab"`, 2, api.ErrForm}, {`a"b"`, 1, api.ErrForm}, {`x ab"c`, 4, api.ErrForm},
		{`"a"b`, 3, api.ErrForm}, {`"a""b"`, 3, api.ErrForm}, {`""é`, 2, api.ErrForm}, {`"a"\`, 3, api.ErrForm},
		{`"\t"`, 1, api.ErrForm}, {`"a\ "`, 2, api.ErrForm}, {`"\N"`, 1, api.ErrForm}, {"\"\\\xff", 1, api.ErrForm},
		{`"\u{a}"`, 1, api.ErrForm}, {`"\u{41}"`, 1, api.ErrForm}, {`"\u{20}"`, 1, api.ErrForm}, {`"\u{22}"`, 1, api.ErrForm}, {`"\u{a0}"`, 1, api.ErrForm},
		{`"\u{07}"`, 1, api.ErrForm}, {`"\u{1F}"`, 1, api.ErrForm}, {`"\u{}"`, 1, api.ErrForm}, {`"\u7f"`, 1, api.ErrForm}, {`"\u{7f"`, 1, api.ErrForm}, {`"\u{e9}"`, 1, api.ErrForm},
		{`"\u{a`, 1, api.ErrForm}, {`"\u{3`, 5, api.ErrShort}, {`"\u{7e`, 1, api.ErrForm}, {`"\u{00`, 1, api.ErrForm},
		{`"`, 1, api.ErrShort}, {`"abc`, 4, api.ErrShort}, {`x "a b`, 6, api.ErrShort}, {`"\`, 2, api.ErrShort}, {`"\u`, 3, api.ErrShort},
		{`"\u{`, 4, api.ErrShort}, {`"\u{1`, 5, api.ErrShort}, {`"\u{7f`, 6, api.ErrShort}, {`"\u{8`, 5, api.ErrShort}, {`"a\"`, 4, api.ErrShort}, {`"é\\`, 5, api.ErrShort},
		{fifty + "y", 100, api.ErrLimit}, {fifty + "  yy\x00", 102, api.ErrLimit}, {fifty + `"`, 100, api.ErrLimit}, {fifty + "\x00", 100, api.ErrForm}, {fifty + " \xff", 101, api.ErrForm},
		{"\x01 " + fifty, 0, api.ErrForm}, {strings.Repeat(`"" `, 49) + `"`, 148, api.ErrShort},
	}
	for _, c := range cases {
		if w, at, e := word.Words(c.s); w != nil || at != c.at || e != c.e {
			t.Errorf("Words(%q) = %q, %d, %d; want %d, %d", c.s, w, at, e, c.at, c.e)
		}
	}
}

// P2.5: lists that are answered share nothing.
func TestMemory(t *testing.T) {
	a, _, _ := word.Words("x y z")
	a[0] = "changed"
	if b, _, _ := word.Words("x y z"); b[0] != "x" {
		t.Errorf("%q", b)
	}
}

// P2.6: words of quotes are the texts.
func TestRound(t *testing.T) {
	r := rand.New(rand.NewSource(3))
	signs := []rune("ab \"\\\n\x00\x01\t\x1f\x7f\u0080\u009f\u00a0é中\U0010FFFF\uFFFD{}un")
	for range 3000 {
		texts := make([]string, r.Intn(51))
		line := strings.Repeat(" ", r.Intn(3))
		for i := range texts {
			for range r.Intn(6) {
				texts[i] += string(signs[r.Intn(len(signs))])
			}
			q, e := word.Quote(texts[i])
			if e != api.OK {
				t.Fatal(e)
			}
			line += q + strings.Repeat(" ", 1+r.Intn(2))
		}
		w, at, e := word.Words(line)
		if !slices.Equal(w, texts) || at != 0 || e != api.OK {
			t.Fatalf("Words(%q) = %q, %d, %d", line, w, at, e)
		}
	}
}
