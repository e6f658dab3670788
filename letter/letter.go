// Package letter is layer 1: names and texts, rune by rune. See shared/doc/01-letter.md.
package letter

import (
	"cmp"
	"strings"
	"unicode/utf8"

	"cobweb/api"
)

// Two signs stand amid the letters of Latin-1, and are none.
const (
	times    = 0x00D7
	division = 0x00F7
)

// Right: is each a name?
func Right(names ...string) bool {
	for _, name := range names {
		if !isName(name) {
			return false
		}
	}
	return true
}

func isName(s string) bool {
	n := 0
	for _, r := range s {
		if n == api.MaxName {
			return false
		}
		if !isLetter(r) && (n == 0 || !isDigit(r)) {
			return false
		}
		n++
	}
	return n > 0
}

func isLetter(r rune) bool {
	switch {
	case 'a' <= r && r <= 'z', 'A' <= r && r <= 'Z', r == '_':
		return true
	case r == times, r == division:
		return false
	}
	return 0x00C0 <= r && r <= 0x024F
}

func isDigit(r rune) bool {
	return '0' <= r && r <= '9'
}

// Fold is s, each rune folded, in UTF-8.
func Fold(s string) string {
	var out strings.Builder
	for _, r := range s {
		out.WriteRune(foldRune(r))
	}
	return out.String()
}

func foldRune(r rune) rune {
	if 'A' <= r && r <= 'Z' || 0x00C0 <= r && r <= 0x00DE && r != times {
		return r + 32
	}
	return r
}

// Count is how many runes s has.
func Count(s string) int {
	n := 0
	for range s {
		n++
	}
	return n
}

// Cut is the first n runes of s, as they stand there.
func Cut(s string, n int) string {
	return strings.Clone(s[:end(s, n)]) // an answer shares no memory with what was handed in
}

// end is where the first n runes of s end.
func end(s string, n int) int {
	for i := range s {
		if n <= 0 {
			return i
		}
		n--
	}
	return len(s)
}

// Compare is -1, 0, 1: the lesser rune is first; else the shorter text.
func Compare(a, b string) int {
	for _, r := range a {
		if b == "" {
			return 1
		}
		q, size := utf8.DecodeRuneInString(b)
		if r != q {
			return cmp.Compare(r, q)
		}
		b = b[size:]
	}
	if b != "" {
		return -1
	}
	return 0
}

// Like: does s fit the pattern? ErrMany, if one has more than MaxText runes.
func Like(s, pattern string) (bool, api.Errno) {
	if Count(s) > api.MaxText || Count(pattern) > api.MaxText {
		return false, api.ErrMany
	}
	return fits(s, []rune(pattern)), api.OK
}

// fits keeps of each beginning of the pattern whether the runes so far fit it: so no pattern, however many stars it has, takes more than its length for each rune.
func fits(s string, pattern []rune) bool {
	reached := fittingNone(pattern)
	for _, r := range s {
		reached = fittingNext(reached, pattern, r)
	}
	return reached[len(pattern)]
}

// fittingNone tells which beginnings of the pattern no runes at all fit.
func fittingNone(pattern []rune) []bool {
	reached := make([]bool, len(pattern)+1)
	reached[0] = true
	for i, p := range pattern {
		reached[i+1] = reached[i] && p == '*'
	}
	return reached
}

// fittingNext tells which beginnings of the pattern are fit by the runes that reached those handed in, and r.
func fittingNext(reached []bool, pattern []rune, r rune) []bool {
	next := make([]bool, len(reached))
	for i, p := range pattern {
		switch p {
		case '*':
			next[i+1] = next[i] || reached[i+1] // the star stands for none, or for r too
		case '?':
			next[i+1] = reached[i]
		default:
			next[i+1] = reached[i] && p == r
		}
	}
	return next
}

// Quote is s between quotation marks, in UTF-8, with backslashes ahead of what would break it.
func Quote(s string) string {
	var out strings.Builder
	out.WriteByte('"')
	for _, r := range s {
		switch r {
		case '"', '\\':
			out.WriteByte('\\')
			out.WriteRune(r)
		case '\n':
			out.WriteString("\\n")
		default:
			out.WriteRune(r)
		}
	}
	out.WriteByte('"')
	return out.String()
}

// Unquote is the text in UTF-8 whose Quote s is. ErrForm, if there is none.
func Unquote(s string) (string, api.Errno) {
	if len(s) < 2 || s[0] != '"' || s[len(s)-1] != '"' {
		return "", api.ErrForm
	}
	if !utf8.ValidString(s) { // Quote answers UTF-8, so it never answers this
		return "", api.ErrForm
	}
	return unescape(s[1 : len(s)-1])
}

// unescape is the text of what stands between the quotation marks.
func unescape(s string) (string, api.Errno) {
	var out strings.Builder
	escaped := false
	for _, r := range s {
		switch {
		case escaped:
			m, ok := meant(r)
			if !ok {
				return "", api.ErrForm
			}
			out.WriteRune(m)
			escaped = false
		case r == '\\':
			escaped = true
		case r == '"', r == '\n':
			return "", api.ErrForm
		default:
			out.WriteRune(r)
		}
	}
	if escaped { // then the last quotation mark had a backslash ahead, and ended nothing
		return "", api.ErrForm
	}
	return out.String(), api.OK
}

// meant is the rune that a backslash and r stand for.
func meant(r rune) (rune, bool) {
	switch r {
	case '"', '\\':
		return r, true
	case 'n':
		return '\n', true
	}
	return 0, false
}
