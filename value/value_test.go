package value_test

import (
	"bytes"
	"cmp"
	"math"
	"runtime"
	"slices"
	"strconv"
	"strings"
	"testing"
	"unsafe"

	"cobweb/api"
	"cobweb/letter"
	"cobweb/samples"
	"cobweb/value"
)

func num(n int) api.Value { return api.Value{Kind: api.Int, N: n} }

func text(s string) api.Value { return api.Value{Kind: api.Text, S: s} }

var (
	a199 = strings.Repeat("a", 199)
	a200 = strings.Repeat("a", 200)
	a201 = strings.Repeat("a", 201)
)

// rights are right values, each other than the others.
func rights() []api.Value {
	var out []api.Value
	for _, n := range []int{math.MinInt64, math.MinInt64 + 1, -1 << 32, -257, -256, -255, -129, -128, -127, -10, -5, -1, 0, 1, 2, 9, 10, 127, 128, 255, 256, 257, 65535, 65536, 1 << 32, math.MaxInt64 - 1, math.MaxInt64} {
		out = append(out, num(n))
	}
	for _, s := range samples.Texts(4, "\x00", "\x01", "a", "\xff") {
		out = append(out, text(s))
	}
	for _, s := range []string{a199, a200, a199 + "b", a199 + "\x00", a199 + "\xff", strings.Repeat("\x00", 199), strings.Repeat("\x00", 200), strings.Repeat("\xff", 200), strings.Repeat("é", 100), "\x02", "\x7f", "\x80", "\xfe", "0", "-5", "?", "\"", "\\", "\n", "ä\"ö\n€𝄞"} {
		out = append(out, text(s))
	}
	return out
}

// wrongs are values that aren't right.
func wrongs() []api.Value {
	out := []api.Value{
		{Kind: api.Int, S: "a"},
		{Kind: api.Int, S: "\x00"},
		{Kind: api.Int, N: 1, S: "a"},
		{Kind: api.Text, N: 1},
		{Kind: api.Text, N: -1},
		{Kind: api.Text, N: 1, S: "a"},
		{Kind: api.Text, N: math.MinInt64, S: a201},
		{Kind: api.Text, S: a201},
		{Kind: api.Text, S: strings.Repeat("a", 1000)},
		{Kind: api.Text, S: strings.Repeat("é", 100) + "a"},
		{Kind: api.Text, S: strings.Repeat("€", 67)},
	}
	for _, kind := range []int{api.None, -1, -2, 3, 7, 255, 257, 258, 1<<32 + 1, 1<<32 + 2, math.MinInt64, math.MaxInt64} {
		out = append(out, api.Value{Kind: kind}, api.Value{Kind: kind, N: 5}, api.Value{Kind: kind, S: "a"}, api.Value{Kind: kind, N: 5, S: "a"})
	}
	return out
}

// shared: do two texts share memory?
func shared(a, b string) bool {
	return a != "" && b != "" && unsafe.StringData(a) == unsafe.StringData(b)
}

// P2.1

func TestRight(t *testing.T) {
	for _, v := range rights() {
		if !value.Right(v) {
			t.Errorf("Right(%#v): false", v)
		}
	}
	for _, v := range wrongs() {
		if value.Right(v) {
			t.Errorf("Right(%#v): true", v)
		}
	}
}

func TestRightOfSeveral(t *testing.T) {
	for i, c := range []struct {
		vs   []api.Value
		want bool
	}{
		{nil, true},
		{[]api.Value{}, true},
		{[]api.Value{num(1), text("a"), num(1)}, true},
		{[]api.Value{{}, num(1), num(1)}, false},
		{[]api.Value{num(1), {}, num(1)}, false},
		{[]api.Value{num(1), text("a"), {}}, false},
		{[]api.Value{num(1), {Kind: api.Int, S: "a"}}, false},
		{[]api.Value{text(""), {Kind: api.Text, N: 1}}, false},
		{[]api.Value{{}, {}}, false},
	} {
		if value.Right(c.vs...) != c.want {
			t.Errorf("%d: Right: %v", i, !c.want)
		}
	}
}

func TestThing(t *testing.T) {
	for _, v := range rights() {
		x, e := value.Thing(v)
		var want any = v.N
		if v.Kind == api.Text {
			want = v.S
		}
		if x != want || e != api.OK {
			t.Errorf("Thing(%#v): %v, %d", v, x, e)
		}
	}
	for _, v := range wrongs() {
		if x, e := value.Thing(v); x != nil || e != api.ErrKind {
			t.Errorf("Thing(%#v): %v, %d", v, x, e)
		}
	}
}

// panicked is what f panics with.
func panicked(f func()) (x any) {
	defer func() { x = recover() }()
	f()
	return nil
}

// isAssertion: is it what an assertion of one value panics with?
func isAssertion(x any) bool {
	_, ok := x.(*runtime.TypeAssertionError)
	return ok
}

func TestNumber(t *testing.T) {
	for _, v := range append(rights(), wrongs()...) {
		var n int
		x := panicked(func() { n = value.Number(v) })
		if v.Kind == api.Int && v.S == "" {
			if n != v.N || x != nil {
				t.Errorf("Number(%#v): %d, panic: %v", v, n, x)
			}
		} else if !isAssertion(x) {
			t.Errorf("Number(%#v): %d, panic: %v", v, n, x)
		}
	}
}

func TestString(t *testing.T) {
	for _, v := range append(rights(), wrongs()...) {
		var s string
		x := panicked(func() { s = value.String(v) })
		if v.Kind == api.Text && v.N == 0 && len(v.S) <= 200 {
			if s != v.S || x != nil {
				t.Errorf("String(%#v): %#v, panic: %v", v, s, x)
			}
		} else if !isAssertion(x) {
			t.Errorf("String(%#v): %#v, panic: %v", v, s, x)
		}
	}
}

// P2.2

func TestCompare(t *testing.T) {
	for i, c := range []struct {
		a, b api.Value
		want int
	}{
		{num(1), num(1), 0},
		{num(-1), num(1), -1},
		{num(math.MinInt64), num(math.MaxInt64), -1}, // their difference is none of 64 bits
		{num(9), text(""), -1},                       // kinds count ahead of all else
		{num(math.MaxInt64), text("\x00"), -1},
		{text(""), text(""), 0},
		{text(""), text("\x00"), -1},
		{text("a"), text("a\x00"), -1},
		{text("a\xff"), text("b"), -1},
		{text("b"), text("ab"), 1},
		{text("\xef\xbf\xbd"), text("\xff"), -1}, // bytes count, not runes: as such they are alike
		{text("\U00010000"), text("\uffff"), 1},
		{text("A"), text("a"), -1},
		{api.Value{}, num(math.MinInt64), -1}, // values that aren't right are held against each other too
		{api.Value{}, api.Value{}, 0},
		{api.Value{Kind: -1, N: 5, S: "b"}, api.Value{N: 4, S: "a"}, -1},
		{api.Value{Kind: 3}, text("z"), 1},
		{api.Value{Kind: math.MinInt64}, api.Value{Kind: math.MaxInt64}, -1},
		{api.Value{Kind: 1, N: 1, S: "b"}, api.Value{Kind: 1, N: 2, S: "a"}, -1},
		{api.Value{Kind: 1, N: 1, S: "b"}, api.Value{Kind: 1, N: 1, S: "a"}, 1},
		{api.Value{Kind: 2, N: 1, S: "a"}, api.Value{Kind: 2, S: "b"}, 1},
		{text(a201), text(a200), 1},
	} {
		if got := value.Compare(c.a, c.b); got != c.want {
			t.Errorf("%d: Compare(%#v, %#v): %d", i, c.a, c.b, got)
		}
		if got := value.Compare(c.b, c.a); got != -c.want {
			t.Errorf("%d, turned about: Compare(%#v, %#v): %d", i, c.b, c.a, got)
		}
	}
}

// before is what P2.2 says, word by word.
func before(a, b api.Value) int {
	if a.Kind != b.Kind {
		return cmp.Compare(a.Kind, b.Kind)
	}
	if a.N != b.N {
		return cmp.Compare(a.N, b.N)
	}
	return bytes.Compare([]byte(a.S), []byte(b.S))
}

func TestCompareIsThatOfKindNumberText(t *testing.T) {
	all := append(rights(), wrongs()...)
	for _, a := range all {
		for _, b := range all {
			if got := value.Compare(a, b); got != before(a, b) {
				t.Fatalf("Compare(%#v, %#v): %d", a, b, got)
			}
		}
	}
}

// P2.3

var laid = []struct {
	v api.Value
	b string
}{
	{num(1), "\x01\x80\x00\x00\x00\x00\x00\x00\x01"},
	{num(0), "\x01\x80\x00\x00\x00\x00\x00\x00\x00"},
	{num(-1), "\x01\x7f\xff\xff\xff\xff\xff\xff\xff"},
	{num(-5), "\x01\x7f\xff\xff\xff\xff\xff\xff\xfb"},
	{num(math.MinInt64), "\x01\x00\x00\x00\x00\x00\x00\x00\x00"},
	{num(math.MaxInt64), "\x01\xff\xff\xff\xff\xff\xff\xff\xff"},
	{num(0x0123456789abcdef), "\x01\x81\x23\x45\x67\x89\xab\xcd\xef"},
	{text(""), "\x02\x00\x00"},
	{text("a"), "\x02a\x00\x00"},
	{text("\x00"), "\x02\x00\xff\x00\x00"},
	{text("\x00\x00"), "\x02\x00\xff\x00\xff\x00\x00"},
	{text("\x00\xff"), "\x02\x00\xff\xff\x00\x00"},
	{text("\xff\x00"), "\x02\xff\x00\xff\x00\x00"},
	{text("\xff"), "\x02\xff\x00\x00"},
	{text("a\x00b"), "\x02a\x00\xffb\x00\x00"},
	{text("\x01\x02"), "\x02\x01\x02\x00\x00"},
	{text("é"), "\x02\xc3\xa9\x00\x00"},
	{text(a200), "\x02" + a200 + "\x00\x00"},
	{text(a199 + "\x00"), "\x02" + a199 + "\x00\xff\x00\x00"},
	{text(strings.Repeat("\x00", 200)), "\x02" + strings.Repeat("\x00\xff", 200) + "\x00\x00"},
	{text(strings.Repeat("\xff", 200)), "\x02" + strings.Repeat("\xff", 200) + "\x00\x00"},
}

func TestBytes(t *testing.T) {
	for _, c := range laid {
		if b, e := value.Bytes(c.v); string(b) != c.b || e != api.OK {
			t.Errorf("Bytes(%#v): %x, %d", c.v, b, e)
		}
	}
	for _, v := range wrongs() {
		if b, e := value.Bytes(v); len(b) != 0 || e != api.ErrKind {
			t.Errorf("Bytes(%#v): %x, %d", v, b, e)
		}
	}
}

// takes holds what Take answers of b against what is wanted.
func takes(t *testing.T, b string, v api.Value, n int, e api.Errno) {
	t.Helper()
	if gotV, gotN, gotE := value.Take([]byte(b)); gotV != v || gotN != n || gotE != e {
		t.Errorf("Take(%#v): %#v, %d, %d; wanted: %#v, %d, %d", b, gotV, gotN, gotE, v, n, e)
	}
}

func TestTake(t *testing.T) {
	for _, c := range laid {
		for _, behind := range []string{"", "\x00", "\x01", "\x02", "\xff", "a", "\x00\x00", "\x00\xff", "\x00\x01", a201} {
			takes(t, c.b+behind, c.v, len(c.b), api.OK)
		}
	}
}

func TestTakeOfWhatEndsAmidAValue(t *testing.T) {
	for _, c := range laid {
		for n := range len(c.b) {
			takes(t, c.b[:n], api.Value{}, 0, api.ErrShort)
		}
	}
	if v, n, e := value.Take(nil); v != (api.Value{}) || n != 0 || e != api.ErrShort {
		t.Errorf("Take(nil): %#v, %d, %d", v, n, e)
	}
}

func TestTakeOfFaults(t *testing.T) {
	for first := range 256 {
		if first != 1 && first != 2 {
			takes(t, string([]byte{byte(first)}), api.Value{}, 0, api.ErrKind)
			takes(t, string([]byte{byte(first)})+"\x80\x00\x00\x00\x00\x00\x00\x01", api.Value{}, 0, api.ErrKind)
			takes(t, string([]byte{byte(first)})+a201+"\x00\x01", api.Value{}, 0, api.ErrKind)
		}
	}
	for second := 1; second < 255; second++ {
		bad := "\x00" + string([]byte{byte(second)})
		for _, ahead := range []string{"", "a", "\x00\xff", a199, a200} {
			for _, behind := range []string{"", "\x00", "\x00\x00", a201} {
				takes(t, "\x02"+ahead+bad+behind, api.Value{}, 0, api.ErrForm)
			}
		}
		takes(t, "\x02"+a201+bad, api.Value{}, 0, api.ErrMany)
	}
}

func TestTakeOfAByteTooMany(t *testing.T) {
	zeros := strings.Repeat("\x00\xff", 200)
	for _, full := range []string{a200, a199 + "\x00\xff", "\x00\xff" + a199, zeros} {
		for _, b := range []string{"a", "\xff", "\x01", "\x00\xff", "a\x00\x00", "\x00\xff\x00\x00", "aa", "a\x00", "\xff\x00\x01"} {
			takes(t, "\x02"+full+b, api.Value{}, 0, api.ErrMany)
		}
		takes(t, "\x02"+full, api.Value{}, 0, api.ErrShort)
		takes(t, "\x02"+full+"\x00", api.Value{}, 0, api.ErrShort) // that byte 0 may be the end: it's not yet one too many
		takes(t, "\x02"+full+"\x00\x01", api.Value{}, 0, api.ErrForm)
		takes(t, "\x02"+full+"\x00\x00", text(strings.ReplaceAll(full, "\x00\xff", "\x00")), len(full)+3, api.OK)
	}
}

// fault is what P2.3 says of bytes with which no value's begin, by their first fault.
func fault(b string) api.Errno {
	if b == "" {
		return api.ErrShort
	}
	if b[0] != 1 && b[0] != 2 {
		return api.ErrKind
	}
	for b[0] == 2 {
		i := strings.IndexByte(b, 0)
		if i < 0 || i+1 == len(b) {
			return api.ErrShort
		}
		if b[i+1] != 255 {
			return api.ErrForm
		}
		b = b[:i] + "a" + b[i+2:]
	}
	return api.ErrShort
}

func TestTakeIsWhatTheWordsSay(t *testing.T) {
	known := map[string]api.Value{}
	pieces := []string{"\x00", "\x01", "\x02", "a", "\xff"}
	for _, s := range samples.Texts(4, pieces...) {
		known["\x02"+strings.ReplaceAll(s, "\x00", "\x00\xff")+"\x00\x00"] = text(s)
	}
	for _, b := range samples.Texts(7, pieces...) {
		v, n, e := api.Value{}, 0, fault(b)
		for i := range len(b) + 1 {
			if k, ok := known[b[:i]]; ok {
				v, n, e = k, i, api.OK
			}
		}
		takes(t, b, v, n, e)
	}
}

func TestTakeOneBehindTheOther(t *testing.T) {
	var all []byte
	for _, v := range rights() {
		b, e := value.Bytes(v)
		if e != api.OK {
			t.Fatalf("Bytes(%#v): %d", v, e)
		}
		all = append(all, b...)
	}
	for _, want := range rights() {
		v, n, e := value.Take(all)
		if v != want || n < 1 || e != api.OK {
			t.Fatalf("Take: %#v, %d, %d; wanted: %#v", v, n, e, want)
		}
		all = all[n:]
	}
	if len(all) > 0 {
		t.Errorf("%d bytes are left", len(all))
	}
}

// P2.4

func TestPrint(t *testing.T) {
	for v, want := range map[api.Value]string{
		num(0):                  "0",
		num(-5):                 "-5",
		num(10):                 "10",
		num(math.MaxInt64):      "9223372036854775807",
		num(math.MinInt64):      "-9223372036854775808",
		text(""):                `""`,
		text("a"):               `"a"`,
		text("-5"):              `"-5"`,
		text(`a"b`):             `"a\"b"`,
		text(`\`):               `"\\"`,
		text("\n"):              `"\n"`,
		text("\x00\t"):          "\"\x00\t\"",
		text("ä€"):              `"ä€"`,
		text("\xff"):            "\"\uFFFD\"",
		text("?"):               `"?"`,
		text(a200):              `"` + a200 + `"`,
		{}:                      "?",
		{Kind: 3}:               "?",
		{Kind: api.Int, S: "a"}: "?",
		text(a201):              "?",
	} {
		if got := value.Print(v); got != want {
			t.Errorf("Print(%#v): %s", v, got)
		}
	}
	for _, v := range rights() {
		want := strconv.Itoa(v.N)
		if v.Kind == api.Text {
			want = letter.Quote(v.S)
		}
		if got := value.Print(v); got != want {
			t.Errorf("Print(%#v): %s", v, got)
		}
	}
	for _, v := range wrongs() {
		if got := value.Print(v); got != "?" {
			t.Errorf("Print(%#v): %s", v, got)
		}
	}
}

func TestRead(t *testing.T) {
	for s, want := range map[string]api.Value{
		"0":                                      num(0),
		"-5":                                     num(-5),
		"10":                                     num(10),
		"100":                                    num(100),
		"9223372036854775807":                    num(math.MaxInt64),
		"-9223372036854775808":                   num(math.MinInt64),
		`""`:                                     text(""),
		`"a"`:                                    text("a"),
		`"5"`:                                    text("5"),
		`"a\"b"`:                                 text(`a"b`),
		`"\\"`:                                   text(`\`),
		`"\n"`:                                   text("\n"),
		"\"\x00\"":                               text("\x00"),
		`"?"`:                                    text("?"),
		"\"\uFFFD\"":                             text("\uFFFD"), // text("\xff") is printed so too, but isn't in UTF-8
		`"` + a200 + `"`:                         text(a200),
		`"` + strings.Repeat(`\"`, 200) + `"`:    text(strings.Repeat(`"`, 200)),
		`"` + strings.Repeat("é", 100) + `"`:     text(strings.Repeat("é", 100)),
		`"aa` + strings.Repeat("€", 66) + `"`:    text("aa" + strings.Repeat("€", 66)),
		`"` + strings.Repeat("\uFFFD", 66) + `"`: text(strings.Repeat("\uFFFD", 66)),
	} {
		if v, e := value.Read(s); v != want || e != api.OK {
			t.Errorf("Read(%#v): %#v, %d", s, v, e)
		}
	}
}

func TestReadOfNoPrint(t *testing.T) {
	for _, s := range []string{
		"", "?", "-", "--1", "-0", "+0", "+1", "00", "01", "-01", "007", " 1", "1 ", "1\n", "1_000", "1,0", "1.0", "1e3", "0x1", "0b1", "0o7", "a", "a1", "1a", "١", "−1",
		"9223372036854775808", "-9223372036854775809", "18446744073709551616", "18446744073709551617", strings.Repeat("9", 1000), "-" + strings.Repeat("0", 1000),
		`"`, `"a`, `a"`, `"a"b`, `"a" `, ` "a"`, `"a""b"`, `'a'`, "`a`", `"\"`, `"\a"`, `"\t"`, `"\x00"`, "\"\n\"", `"a"b"`,
		"\"\xff\"", "\xff", "\"a\xff\"", "\"\xed\xa0\x80\"", "\"\xc0\x80\"", // none is printed so: Quote answers UTF-8
		`"` + a201 + `"`,
		`"` + strings.Repeat(`\"`, 201) + `"`,
		`"` + strings.Repeat("é", 100) + `a"`,
		`"` + strings.Repeat("\uFFFD", 67) + `"`, // 67 bytes \xff are printed so, but aren't in UTF-8
		`"` + strings.Repeat("\uFFFD", 200) + `"`,
	} {
		if v, e := value.Read(s); v != (api.Value{}) || e != api.ErrForm {
			t.Errorf("Read(%#v): %#v, %d", s, v, e)
		}
	}
	for _, v := range wrongs() {
		if x, e := value.Read(value.Print(v)); x != (api.Value{}) || e != api.ErrForm {
			t.Errorf("Read of what %#v is printed as: %#v, %d", v, x, e)
		}
	}
}

func TestReadIsPrintTurnedAbout(t *testing.T) {
	printed := map[string]api.Value{}
	for n := -99999; n <= 99999; n++ {
		printed[strconv.Itoa(n)] = num(n)
	}
	pieces := []string{"-", "+", "0", "1", `"`, `\`, "n", " "}
	for _, s := range samples.Texts(3, append(pieces, "\n")...) {
		printed[letter.Quote(s)] = text(s)
	}
	for _, s := range samples.Texts(5, append(pieces, "\n")...) {
		want, ok := printed[s]
		e := api.ErrForm
		if ok {
			e = api.OK
		}
		if v, gotE := value.Read(s); v != want || gotE != e {
			t.Fatalf("Read(%#v): %#v, %d; wanted: %#v, %d", s, v, gotE, want, e)
		}
	}
}

// P2.5

func TestBytesAreOrderedAsValues(t *testing.T) {
	vs := rights()
	var bs [][]byte
	for _, v := range vs {
		b, e := value.Bytes(v)
		if e != api.OK {
			t.Fatalf("Bytes(%#v): %d", v, e)
		}
		bs = append(bs, b)
	}
	for i, v := range vs {
		for j, w := range vs {
			if bytes.Compare(bs[i], bs[j]) != value.Compare(v, w) {
				t.Errorf("%#v, %#v: their bytes %x, %x are ordered otherwise", v, w, bs[i], bs[j])
			}
			if i != j && bytes.HasPrefix(bs[i], bs[j]) {
				t.Errorf("%#v, %#v: bytes %x begin as %x", v, w, bs[i], bs[j])
			}
		}
	}
}

func TestReadOfPrint(t *testing.T) {
	for _, v := range rights() {
		want, wantE := v, api.OK
		if v.Kind == api.Text {
			want = text(string([]rune(v.S))) // v itself, if it's in UTF-8; else what is printed as v is, and is
		}
		if len(want.S) > 200 {
			want, wantE = api.Value{}, api.ErrForm
		}
		if got, e := value.Read(value.Print(v)); got != want || e != wantE {
			t.Errorf("Read of Print of %#v: %#v, %d; wanted: %#v, %d", v, got, e, want, wantE)
		}
	}
}

func TestAnswersAreNewMemory(t *testing.T) {
	s := strings.Clone("ab")
	v := text(s)
	if x, _ := value.Thing(v); shared(x.(string), s) {
		t.Error("Thing answers the text that it was handed")
	}
	if shared(value.String(v), s) {
		t.Error("String answers the text that it was handed")
	}
	for _, v := range []api.Value{num(1), v} {
		b, _ := value.Bytes(v)
		clear(b[:cap(b)])
		if c, _ := value.Bytes(v); c[0] == 0 {
			t.Errorf("Bytes(%#v) answers twice the same memory", v)
		}
	}
	b := []byte("\x02ab\x00\x00")
	took, _, _ := value.Take(b)
	clear(b)
	if took != v {
		t.Errorf("Take keeps what it was handed: %#v", took)
	}
	q := value.Print(v)
	read, _ := value.Read(q)
	if shared(read.S, q[1:]) {
		t.Error("Read answers a piece of the text that it was handed")
	}
}

func TestArgumentsStayAsTheyWere(t *testing.T) {
	for _, c := range append(laid, laid[0]) {
		b := []byte(c.b + "behind it")
		value.Take(b[:len(c.b)])
		if string(b) != c.b+"behind it" {
			t.Errorf("Take changed its argument: %q", b)
		}
	}
	vs := append(rights(), wrongs()...)
	was := slices.Clone(vs)
	value.Right(vs...)
	if !slices.Equal(vs, was) {
		t.Error("Right changed its arguments")
	}
}
