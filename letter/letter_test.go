package letter_test

import (
	"math"
	"slices"
	"strings"
	"testing"
	"unicode/utf8"
	"unsafe"

	"cobweb/api"
	"cobweb/letter"
	"cobweb/samples"
)

// broken are bytes that are no rune: each byte counts as one U+FFFD.
var broken = []struct {
	s     string
	runes int
}{
	{"\xff", 1},
	{"\xc3", 1},         // the beginning of a longer one
	{"\x80\x80", 2},     // pieces without a beginning
	{"\xc0\x80", 2},     // too long for what it says
	{"\xed\xa0\x80", 3}, // half of a pair
	{"a\xffb", 3},
	{"\xe2\x82", 2},
}

// P1.1

func TestRightOfEachRune(t *testing.T) {
	letters := map[rune]bool{'_': true}
	for _, span := range [][2]rune{{'a', 'z'}, {'A', 'Z'}, {0xC0, 0xD6}, {0xD8, 0xF6}, {0xF8, 0x24F}} {
		for r := span[0]; r <= span[1]; r++ {
			letters[r] = true
		}
	}
	for r := rune(0); r <= utf8.MaxRune; r++ {
		s := string(r)
		if letter.Right(s) != letters[r] {
			t.Errorf("Right(%q) as the first: %v", s, !letters[r])
		}
		want := letters[r] || strings.ContainsRune("0123456789", r)
		if letter.Right("x"+s) != want {
			t.Errorf("Right(%q) behind the first: %v", "x"+s, !want)
		}
	}
}

func TestRight(t *testing.T) {
	for s, want := range map[string]bool{
		"Ärger_7":                     true,
		"_":                           true,
		"":                            false,
		"7a":                          false,
		"a-b":                         false,
		"a b":                         false,
		"a\n":                         false,
		"\x00":                        false,
		"a\uFFFD":                     false,
		strings.Repeat("a", 32):       true,
		strings.Repeat("a", 33):       false,
		strings.Repeat("é", 32):       true,
		strings.Repeat("é", 33):       false,
		"a" + strings.Repeat("9", 31): true,
		"a" + strings.Repeat("9", 32): false,
		strings.Repeat("é", 31) + "-": false,
	} {
		if letter.Right(s) != want {
			t.Errorf("Right(%q): %v", s, !want)
		}
	}
	for _, b := range broken {
		if letter.Right(b.s) || letter.Right("a"+b.s) {
			t.Errorf("Right(%q)", b.s)
		}
	}
}

func TestRightOfSeveral(t *testing.T) {
	for i, c := range []struct {
		names []string
		want  bool
	}{
		{nil, true},
		{[]string{}, true},
		{[]string{"a", "b", "a"}, true},
		{[]string{"", "b"}, false},
		{[]string{"a", "1"}, false},
		{[]string{"a", "1", "b"}, false},
	} {
		if letter.Right(c.names...) != c.want {
			t.Errorf("%d: Right(%q): %v", i, c.names, !c.want)
		}
	}
}

func TestFoldOfEachRune(t *testing.T) {
	const from = "ABCDEFGHIJKLMNOPQRSTUVWXYZÀÁÂÃÄÅÆÇÈÉÊËÌÍÎÏÐÑÒÓÔÕÖØÙÚÛÜÝÞ"
	const to = "abcdefghijklmnopqrstuvwxyzàáâãäåæçèéêëìíîïðñòóôõöøùúûüýþ"
	folded := map[rune]rune{}
	for i, r := range []rune(from) {
		folded[r] = []rune(to)[i]
	}
	for r := rune(0); r <= utf8.MaxRune; r++ {
		want := string(r)
		if f, ok := folded[r]; ok {
			want = string(f)
		}
		if got := letter.Fold(string(r)); got != want {
			t.Errorf("Fold(%q): %q", string(r), got)
		}
	}
	if letter.Fold(from) != to {
		t.Errorf("Fold(%q): %q", from, letter.Fold(from))
	}
}

func TestFoldCountCutOfBrokenBytes(t *testing.T) {
	for _, b := range broken {
		want := strings.Repeat("\uFFFD", b.runes)
		if strings.HasPrefix(b.s, "a") {
			want = "a\uFFFDb"
		}
		if got := letter.Fold(b.s); got != want {
			t.Errorf("Fold(%q): %q", b.s, got)
		}
		if got := letter.Count(b.s); got != b.runes {
			t.Errorf("Count(%q): %d", b.s, got)
		}
		for n := range b.runes { // each of these runes is one byte
			if got := letter.Cut(b.s, n); got != b.s[:n] {
				t.Errorf("Cut(%q, %d): %q", b.s, n, got)
			}
		}
	}
}

func TestCount(t *testing.T) {
	for s, want := range map[string]int{"": 0, "a": 1, "é": 1, "aé€😀": 4, "\n\x00": 2, "e\u0301": 2, strings.Repeat("€", 1000): 1000} {
		if got := letter.Count(s); got != want {
			t.Errorf("Count(%q): %d", s, got)
		}
	}
}

func TestCut(t *testing.T) {
	for i, c := range []struct {
		s    string
		n    int
		want string
	}{
		{"aé€😀b", 0, ""},
		{"aé€😀b", -1, ""},
		{"aé€😀b", math.MinInt, ""},
		{"aé€😀b", 1, "a"},
		{"aé€😀b", 2, "aé"},
		{"aé€😀b", 3, "aé€"},
		{"aé€😀b", 4, "aé€😀"},
		{"aé€😀b", 5, "aé€😀b"},
		{"aé€😀b", 6, "aé€😀b"},
		{"aé€😀b", math.MaxInt, "aé€😀b"},
		{"", 0, ""},
		{"", 3, ""},
		{"", -3, ""},
		{"\xff\xffA", 2, "\xff\xff"},
		{"a\xff", 9, "a\xff"},
	} {
		if got := letter.Cut(c.s, c.n); got != c.want {
			t.Errorf("%d: Cut(%q, %d): %q", i, c.s, c.n, got)
		}
	}
}

func TestCutIsNewMemory(t *testing.T) {
	s := strings.Repeat("ab", 50)
	for _, n := range []int{1, 50, 100, 101} {
		if unsafe.StringData(letter.Cut(s, n)) == unsafe.StringData(s) {
			t.Errorf("Cut(s, %d) shares s", n)
		}
	}
}

// P1.2

func TestCompare(t *testing.T) {
	for i, c := range []struct {
		a, b string
		want int
	}{
		{"", "", 0},
		{"", "a", -1},
		{"a", "b", -1},
		{"a", "ab", -1},
		{"ab", "b", -1},
		{"Z", "a", -1},
		{"z", "é", -1},
		{"aé", "aé", 0},
		{"\uFFFD", "😀", -1}, // as runes; as words of 16 bits it would be turned about
		{"\xff", "\uFFFD", 0},
		{"\xff\xfe", "\xfe\xff", 0},
		{"\xff", "\x80", 0},
		{"\xff", "😀", -1}, // as bytes it would be turned about
		{"\xff", "é", 1},
		{"\xff", "\xff\xff", -1},
		{"\uFFFDb", "\xffa", 1},
		{"\xed\xa0\x80", "\uFFFD\uFFFD\uFFFD", 0},
		{"\x00", "", 1},
	} {
		if got := letter.Compare(c.a, c.b); got != c.want {
			t.Errorf("%d: Compare(%q, %q): %d", i, c.a, c.b, got)
		}
		if got := letter.Compare(c.b, c.a); got != -c.want {
			t.Errorf("%d: Compare(%q, %q): %d", i, c.b, c.a, got)
		}
	}
}

func TestCompareIsThatOfRunes(t *testing.T) {
	all := samples.Texts(3, "a", "z", "é", "\uFFFD", "\xff", "\xc3", "😀")
	for _, a := range all {
		for _, b := range all {
			if got, want := letter.Compare(a, b), slices.Compare([]rune(a), []rune(b)); got != want {
				t.Fatalf("Compare(%q, %q): %d", a, b, got)
			}
		}
	}
}

// P1.3

func TestLike(t *testing.T) {
	for i, c := range []struct {
		s, p string
		want bool
	}{
		{"graph", "g*p?", true},
		{"graph", "g*p", false},
		{"graph", "graph", true},
		{"graph", "Graph", false},
		{"graph", "grap", false},
		{"graph", "graphs", false},
		{"", "", true},
		{"", "*", true},
		{"", "**", true},
		{"", "?", false},
		{"a", "", false},
		{"a", "?*", true},
		{"a", "*?", true},
		{"a", "?*?", false},
		{"é", "?", true},
		{"é", "??", false},
		{"😀", "?", true},
		{"aab", "*ab", true},
		{"abcabc", "*abc", true},
		{"aXbXc", "a*b*c", true},
		{"aXbX", "a*b*c", false},
		{"abc", "a**c", true},
		{"*", "*", true},
		{"*", "?", true},
		{"a", "\\*", false},
		{"\\*", "\\*", true},
		{"a\nb", "a*b", true},
		{"a\nb", "a?b", true},
		{"\xff", "?", true},
		{"\xff", "\uFFFD", true},
		{"\uFFFD", "\xff", true},
		{"\xff", "\xfe", true},
		{"\xff\xff", "?", false},
		{"\xc3\xa9", "\xc3*", false},
		{"[a]", "[a]", true},
		{"a", "[a]", false},
	} {
		if ok, e := letter.Like(c.s, c.p); ok != c.want || e != api.OK {
			t.Errorf("%d: Like(%q, %q): %v, %d", i, c.s, c.p, ok, e)
		}
	}
}

func TestLikeMany(t *testing.T) {
	for _, r := range []string{"a", "é", "😀", "\xff", "*", "?"} {
		at, above := strings.Repeat(r, api.MaxText), strings.Repeat(r, api.MaxText+1)
		if ok, e := letter.Like(at, "*"); !ok || e != api.OK {
			t.Errorf("200 of %q: %v, %d", r, ok, e)
		}
		if ok, e := letter.Like(at, at); !ok || e != api.OK {
			t.Errorf("200 of %q, as a pattern: %v, %d", r, ok, e)
		}
		for i, c := range [][2]string{{above, "*"}, {"", above}, {above, above}, {above, above[:1]}} {
			if ok, e := letter.Like(c[0], c[1]); ok || e != api.ErrMany {
				t.Errorf("201 of %q, %d: %v, %d", r, i, ok, e)
			}
		}
	}
}

// fits is what the words of the chapter say, without any thrift.
func fits(s, p []rune) bool {
	if len(p) == 0 {
		return len(s) == 0
	}
	if p[0] == '*' {
		return fits(s, p[1:]) || len(s) > 0 && fits(s[1:], p)
	}
	return len(s) > 0 && (p[0] == '?' || p[0] == s[0]) && fits(s[1:], p[1:])
}

func TestLikeIsWhatTheWordsSay(t *testing.T) {
	all := samples.Texts(4, "a", "\xff", "*", "?")
	for _, s := range all {
		for _, p := range all {
			if ok, e := letter.Like(s, p); ok != fits([]rune(s), []rune(p)) || e != api.OK {
				t.Fatalf("Like(%q, %q): %v, %d", s, p, ok, e)
			}
		}
	}
}

// A way that tries each place for each star would never end here.
func TestLikeOfManyStars(t *testing.T) {
	s := strings.Repeat("a", api.MaxText)
	stars := strings.Repeat("*a", api.MaxText/2-1)
	for p, want := range map[string]bool{stars + "*": true, stars + "*b": false, "*" + stars: true, "b" + stars: false} {
		if ok, e := letter.Like(s, p); ok != want || e != api.OK {
			t.Errorf("Like(200 a, %q): %v, %d", p, ok, e)
		}
	}
}

// P1.4

func TestQuote(t *testing.T) {
	for s, want := range map[string]string{
		"":             `""`,
		"a":            `"a"`,
		`say "hi"`:     `"say \"hi\""`,
		`\`:            `"\\"`,
		`\n`:           `"\\n"`,
		"\n":           `"\n"`,
		"a\n\\\"é":     `"a\n\\\"é"`,
		"\t\r\x00\x7f": "\"\t\r\x00\x7f\"",
		"é€😀":          `"é€😀"`,
		"\u2028":       "\"\u2028\"",
		"a\xffb":       "\"a\uFFFDb\"",
		"\xed\xa0\x80": "\"\uFFFD\uFFFD\uFFFD\"",
		"\xff\"":       "\"\uFFFD\\\"\"",
	} {
		if got := letter.Quote(s); got != want {
			t.Errorf("Quote(%q): %s", s, got)
		}
	}
}

func TestUnquote(t *testing.T) {
	for q, want := range map[string]string{
		`""`:                  "",
		`"a"`:                 "a",
		`"say \"hi\""`:        `say "hi"`,
		`"\\"`:                `\`,
		`"\\n"`:               `\n`,
		`"\n"`:                "\n",
		`"\\\""`:              `\"`,
		"\"\t\r\x00\x7f\"":    "\t\r\x00\x7f",
		"\"\uFFFD\"":          "\uFFFD",
		`"é€😀"`:               "é€😀",
		"\"\\\"\uFFFD\\\\n\"": "\"\uFFFD\\n",
	} {
		if got, e := letter.Unquote(q); got != want || e != api.OK {
			t.Errorf("Unquote(%s): %q, %d", q, got, e)
		}
	}
}

func TestUnquoteOfNoQuote(t *testing.T) {
	for _, s := range []string{
		"", `"`, "a", `\`, `"a`, `a"`, "'a'", "`a`", `""a`, `a""`, ` "a"`, `"a" `, "\"a\"\n",
		`"""`, `"a"b"`, `""""`, `"\"`, `"\\\"`, `"a\"`, "\"\n\"", "\"a\\\n\"",
		`"\x"`, `"\t"`, `"\N"`, `"\0"`, `"\u00e9"`, `"\ "`, `"ab\é"`, `"\\\"`,
		"\"\xff\"", "\"\xc3\"", "\"\\\xff\"", "\"\xed\xa0\x80\"", "\"\xc0\x80\"", "\xff\"a\"",
	} {
		if got, e := letter.Unquote(s); got != "" || e != api.ErrForm {
			t.Errorf("Unquote(%q): %q, %d", s, got, e)
		}
	}
}

// Of all short texts just those are unquoted that some text's Quote is, to that text.
func TestUnquoteIsQuoteTurnedAbout(t *testing.T) {
	quoted := map[string]string{}
	for _, s := range samples.Texts(4, `"`, `\`, "\n", "n", "\uFFFD", "a") {
		quoted[letter.Quote(s)] = s
	}
	for _, q := range samples.Texts(6, `"`, `\`, "\n", "n", "\uFFFD", "\xff", "a") {
		want, is := quoted[q]
		got, e := letter.Unquote(q)
		if is && (got != want || e != api.OK) || !is && (got != "" || e != api.ErrForm) {
			t.Fatalf("Unquote(%q): %q, %d", q, got, e)
		}
	}
}

// P1.5

func TestThereAndBack(t *testing.T) {
	all := samples.Texts(4, "\"", "\\", "\n", "n", "é", "*", "?", "A")
	all = append(all, strings.Repeat("É", api.MaxText), strings.Repeat("\\", 5000), "\x00\t×÷ÞþĀā😀\uFFFD")
	for r := rune(0); r <= utf8.MaxRune; r++ {
		all = append(all, string(r))
	}
	for _, s := range all {
		if got, e := letter.Unquote(letter.Quote(s)); got != s || e != api.OK {
			t.Fatalf("Unquote of Quote of %q: %q, %d", s, got, e)
		}
		if once := letter.Fold(s); letter.Fold(once) != once {
			t.Fatalf("Fold of %q", s)
		}
		if letter.Count(s) > api.MaxText {
			continue
		}
		if ok, e := letter.Like(s, s); !ok || e != api.OK {
			t.Fatalf("%q as a pattern: %v, %d", s, ok, e)
		}
	}
}

func TestThereAndBackOfBrokenBytes(t *testing.T) {
	for _, b := range broken {
		if once := letter.Fold(b.s); letter.Fold(once) != once {
			t.Errorf("Fold of %q", b.s)
		}
		if ok, e := letter.Like(b.s, b.s); !ok || e != api.OK {
			t.Errorf("%q as a pattern: %v, %d", b.s, ok, e)
		}
		u, e := letter.Unquote(letter.Quote(b.s))
		if e != api.OK || u != string([]rune(b.s)) {
			t.Errorf("Unquote of Quote of %q: %q, %d", b.s, u, e)
		}
	}
}
