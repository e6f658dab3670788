package props_test

import (
	"maps"
	"math"
	"slices"
	"strings"
	"testing"
	"unsafe"

	"cobweb/api"
	"cobweb/letter"
	"cobweb/props"
	"cobweb/samples"
	"cobweb/value"
)

func num(key string, n int) api.Prop {
	return api.Prop{Key: key, Val: api.Value{Kind: api.Int, N: n}}
}

func text(key, s string) api.Prop {
	return api.Prop{Key: key, Val: api.Value{Kind: api.Text, S: s}}
}

var (
	a200     = strings.Repeat("a", 200)
	a201     = strings.Repeat("a", 201)
	longName = strings.Repeat("é", 32) // 64 bytes
	tooLong  = strings.Repeat("é", 33)
)

// many are n properties in order, of at most 26.
func many(n int) []api.Prop {
	var out []api.Prop
	for i := range n {
		out = append(out, num("k"+string(rune('A'+i)), i))
	}
	return out
}

// noNames are texts that are no names.
var noNames = []string{"", "1", "7a", "a-b", "a b", " a", "×", "a×", "ɐ", "\x00", "a\x00", "\xff", "a\xff", "\xc3", "a\xc3", "\uFFFD", "€", tooLong, strings.Repeat("a", 33), strings.Repeat("a", 255), a201}

// wrongValues are values that aren't right.
var wrongValues = []api.Value{
	{},
	{N: 1},
	{S: "a"},
	{Kind: api.Int, S: "a"},
	{Kind: api.Int, N: 1, S: "a"},
	{Kind: api.Text, N: 1},
	{Kind: api.Text, N: 1, S: "a"},
	{Kind: api.Text, S: a201},
	{Kind: -1},
	{Kind: 3, N: 1},
	{Kind: 257},
	{Kind: math.MinInt},
}

// rights are lists that are right, each other than the others.
func rights() [][]api.Prop {
	full := many(16)
	wide := []api.Prop{text(longName, a200)} // as many bytes as a right list may have
	for i := range 15 {
		wide = append(wide, text(strings.Repeat("é", 31)+string(rune('Ā'+i)), strings.Repeat("\x00", 200)))
	}
	return [][]api.Prop{
		nil,
		{num("a", 1)},
		{num("a", 0)},
		{num("a", -1)},
		{num("_", math.MinInt)},
		{num("Z", math.MaxInt)},
		{text("a", "")},
		{text("a", "\x00")},
		{text("a", "\x00\xff\x00")},
		{text("a", "\xff\xfe")},
		{text("é", "é\n\"")},
		{text("a", a200)},
		{num(longName, 1)},
		{num(strings.Repeat("a", 32), 1)},
		{num("a", 1), num("b", 1)},
		{num("a", 2), num("aa", 1)},
		{num("A", 1), num("Z", 1), num("_", 1), num("a", 1), num("é", 1), num("ɏ", 1)}, // not folded
		{text("a", "x"), num("b", 2)},
		{num("a1", 1), text("a10", "y"), text("a2", "x")},
		{num("Ärger_7", 1), text("ärger_7", "\x01\x02")},
		{text("z", "q"), text("zz", "q"), num("À", 1), num("à", -1)},
		full[:15],
		full,
		wide,
	}
}

// wrongs are lists that aren't right.
func wrongs() [][]api.Prop {
	out := [][]api.Prop{
		{num("b", 1), num("a", 1)},
		{num("a", 1), num("a", 1)},
		{num("a", 1), num("a", 2)},
		{num("a", 1), num("b", 1), num("b", 1)},
		{num("a", 1), num("c", 1), num("b", 1)},
		{num("a", 1), num("b", 1), num("a", 1)},
		{num("a", 1), num("Z", 1)},
		{num("é", 1), num("z", 1)},
		{num("aa", 1), num("a", 1)},
		{num("à", 1), num("À", 1)},
		append(many(15), num("kA", 1)),
		many(17),
		many(26),
		{{}},
		{{}, {}},
		make([]api.Prop, 17),
	}
	for _, s := range noNames {
		out = append(out, []api.Prop{num(s, 1)}, []api.Prop{num(s, 1), num("ɏɏ", 1)}, []api.Prop{num("A", 1), num(s, 1)})
	}
	for _, v := range wrongValues {
		out = append(out, []api.Prop{{Key: "a", Val: v}}, []api.Prop{{Key: "a", Val: v}, num("b", 1)}, []api.Prop{num("A", 1), {Key: "a", Val: v}})
	}
	return out
}

// smalls are all right lists of these Keys and Vals.
func smalls(keys []string, vals []api.Value) [][]api.Prop {
	out := [][]api.Prop{nil}
	for _, k := range keys { // they rise, so what is appended does too
		for _, ps := range out[:len(out):len(out)] {
			for _, v := range vals {
				out = append(out, append(slices.Clip(ps), api.Prop{Key: k, Val: v}))
			}
		}
	}
	return out
}

// apart is the same list, sharing no memory with it: by it is told whether the list was changed.
func apart(ps []api.Prop) []api.Prop {
	out := make([]api.Prop, len(ps))
	for i, p := range ps {
		out[i] = api.Prop{Key: strings.Clone(p.Key), Val: api.Value{Kind: p.Val.Kind, N: p.Val.N, S: strings.Clone(p.Val.S)}}
	}
	return out
}

// P3.1

func TestRight(t *testing.T) {
	for i, ps := range rights() {
		if !props.Right(ps) {
			t.Errorf("%d: Right(%v): false", i, ps)
		}
	}
	for i, ps := range wrongs() {
		if props.Right(ps) {
			t.Errorf("%d: Right(%v): true", i, ps)
		}
	}
	if !props.Right([]api.Prop{}) {
		t.Error("Right of an empty list: false")
	}
}

func TestRightOfEachPairOfKeys(t *testing.T) {
	keys := []string{"A", "Z", "_", "a", "a0", "a1", "aA", "aa", "b", "À", "Þ", "à", "é", "ée", "ɏ", longName, longName[:62]}
	for _, a := range keys {
		for _, b := range keys {
			if got, want := props.Right([]api.Prop{num(a, 1), num(b, 1)}), letter.Compare(a, b) < 0; got != want {
				t.Errorf("Right of %q, %q: %v", a, b, got)
			}
		}
	}
}

func TestGet(t *testing.T) {
	ps := []api.Prop{num("a", 0), text("b", ""), num("c", 7), text("d", "x"), num("é", 3)}
	for _, p := range ps {
		if v, ok := props.Get(ps, p.Key); v != p.Val || !ok {
			t.Errorf("Get(%q): %v, %v", p.Key, v, ok)
		}
	}
	for _, key := range []string{"", "A", "z", "aa", "e", "É", "\xff", "\xc3", "c\x00"} {
		if v, ok := props.Get(ps, key); v != (api.Value{}) || ok {
			t.Errorf("Get(%q): %v, %v", key, v, ok)
		}
	}
	if v, ok := props.Get(nil, "a"); v != (api.Value{}) || ok {
		t.Errorf("Get of no list: %v, %v", v, ok)
	}
	if v, ok := props.Get(nil, ""); v != (api.Value{}) || ok {
		t.Errorf("Get of no list, of no Key: %v, %v", v, ok)
	}
}

func TestGetOfListsThatArentRight(t *testing.T) {
	odd := api.Value{Kind: 9, N: 5, S: a201}
	ps := []api.Prop{num("z", 1), num("a", 2), {Key: "b"}, num("a", 3), {Key: "z", Val: odd}, {Key: "1", Val: odd}, num("", 6), num("\xff", 7), num("\uFFFD", 8)}
	for key, want := range map[string]api.Value{
		"z":      {Kind: api.Int, N: 1},
		"a":      {Kind: api.Int, N: 2},
		"b":      {},
		"1":      odd,
		"":       {Kind: api.Int, N: 6},
		"\xff":   {Kind: api.Int, N: 7},
		"\uFFFD": {Kind: api.Int, N: 8}, // another Key than broken bytes, though runes don't tell them apart
	} {
		if v, ok := props.Get(ps, key); v != want || !ok {
			t.Errorf("Get(%q): %v, %v", key, v, ok)
		}
	}
	if v, ok := props.Get(ps, "\xfe"); v != (api.Value{}) || ok {
		t.Errorf("Get(%q): %v, %v", "\xfe", v, ok)
	}
}

func TestSame(t *testing.T) {
	all := append(rights(), wrongs()...)
	for i, a := range all {
		if !props.Same(a, apart(a)) {
			t.Errorf("%d: Same of it and itself: false", i)
		}
	}
	if !props.Same(nil, []api.Prop{}) || !props.Same([]api.Prop{}, nil) {
		t.Error("Same of none and none: false")
	}
	rs := rights()
	for i, a := range rs {
		for j, b := range rs {
			if props.Same(a, b) != (i == j) {
				t.Errorf("Same of %d and %d: %v", i, j, i != j)
			}
		}
	}
	one := []api.Prop{num("a", 1), text("b", "x")}
	for i, other := range [][]api.Prop{
		nil,
		one[:1],
		one[1:],
		{one[1], one[0]},
		append(slices.Clip(one), num("c", 1)),
		{num("a", 1), text("c", "x")},
		{num("A", 1), text("b", "x")},
		{num("a", 2), text("b", "x")},
		{num("a", 1), text("b", "y")},
		{num("a", 1), {Key: "b", Val: api.Value{Kind: api.Text, N: 1, S: "x"}}},
		{num("a", 1), {Key: "b", Val: api.Value{Kind: 3, S: "x"}}},
	} {
		if props.Same(one, other) || props.Same(other, one) {
			t.Errorf("%d: Same(%v, %v): true", i, one, other)
		}
	}
}

// P3.2

func TestSet(t *testing.T) {
	full := many(16)
	var turned []api.Prop // the same Keys, the last one ahead, with other values
	for i := range full {
		turned = append(turned, text(full[15-i].Key, "new"))
	}
	news := slices.Clone(turned)
	slices.Reverse(news)
	for i, c := range []struct{ ps, news, want []api.Prop }{
		{nil, nil, nil},
		{nil, []api.Prop{num("a", 1)}, []api.Prop{num("a", 1)}},
		{[]api.Prop{num("b", 1)}, nil, []api.Prop{num("b", 1)}},
		{[]api.Prop{num("b", 1)}, []api.Prop{text("a", "x"), num("b", 2)}, []api.Prop{text("a", "x"), num("b", 2)}},
		{[]api.Prop{num("b", 1)}, []api.Prop{num("a", 2)}, []api.Prop{num("a", 2), num("b", 1)}},                           // ahead
		{[]api.Prop{num("b", 1), num("d", 1)}, []api.Prop{num("c", 2)}, []api.Prop{num("b", 1), num("c", 2), num("d", 1)}}, // between
		{[]api.Prop{num("b", 1)}, []api.Prop{num("c", 2)}, []api.Prop{num("b", 1), num("c", 2)}},                           // behind
		{[]api.Prop{num("b", 1), num("c", 1)}, []api.Prop{text("b", "y")}, []api.Prop{text("b", "y"), num("c", 1)}},        // in its place
		{[]api.Prop{num("b", 1)}, []api.Prop{num("b", 1)}, []api.Prop{num("b", 1)}},
		{nil, []api.Prop{num("a", 1), num("a", 2)}, []api.Prop{num("a", 2)}},
		{nil, []api.Prop{num("a", 1), num("b", 5), text("a", "x"), num("a", 3)}, []api.Prop{num("a", 3), num("b", 5)}},
		{nil, []api.Prop{num("c", 1), num("b", 2), num("a", 3)}, []api.Prop{num("a", 3), num("b", 2), num("c", 1)}},
		{[]api.Prop{num("a", 1), num("é", 1)}, []api.Prop{num("z", 2), num("É", 3), num("ɏ", 4), num("Z", 5)}, []api.Prop{num("Z", 5), num("a", 1), num("z", 2), num("É", 3), num("é", 1), num("ɏ", 4)}},
		{[]api.Prop{num("aé", 1)}, []api.Prop{num("a", 2), num("aéa", 3)}, []api.Prop{num("a", 2), num("aé", 1), num("aéa", 3)}},
		{nil, []api.Prop{text(longName, a200)}, []api.Prop{text(longName, a200)}},
		{nil, full, full},
		{full, full, full},
		{full, turned, news},
		{full[:15], []api.Prop{num("a", 1)}, append([]api.Prop{num("a", 1)}, full[:15]...)},
		{full[1:], []api.Prop{full[0], full[0], full[3]}, full},
		{nil, append(slices.Clone(turned), full...), full}, // 32 news, of 16 Keys
	} {
		got, e := props.Set(c.ps, c.news...)
		if !slices.Equal(got, c.want) || e != api.OK {
			t.Errorf("%d: Set(%v, %v): %v, %d", i, c.ps, c.news, got, e)
		}
	}
}

// An insertion that looks at the wrong place of a full list is seen here.
func TestSetOfEachKeyAmidTheOthers(t *testing.T) {
	full := many(16)
	for i := range full {
		without := slices.Delete(slices.Clone(full), i, i+1)
		if got, e := props.Set(without, full[i]); !slices.Equal(got, full) || e != api.OK {
			t.Errorf("%d, put in: %v, %d", i, got, e)
		}
		want := slices.Clone(full)
		want[i] = text(full[i].Key, "new")
		if got, e := props.Set(full, want[i]); !slices.Equal(got, want) || e != api.OK {
			t.Errorf("%d, set again: %v, %d", i, got, e)
		}
	}
}

func TestSetOfManyOrders(t *testing.T) {
	full := many(16)
	for step := 1; step < 17; step++ { // 17 is prime, so each step goes through all
		var news []api.Prop
		for i := 1; i < 17; i++ {
			news = append(news, full[i*step%17-1])
		}
		if got, e := props.Set(nil, news...); !slices.Equal(got, full) || e != api.OK {
			t.Errorf("step %d: %v, %d", step, got, e)
		}
	}
}

func TestSetFaults(t *testing.T) {
	full, noName, noKind := many(16), num("1", 1), api.Prop{Key: "a"}
	for i, c := range []struct {
		ps, news []api.Prop
		e        api.Errno
	}{
		{many(17), nil, api.ErrArg},
		{many(17), []api.Prop{noName, noKind}, api.ErrArg},
		{[]api.Prop{num("b", 1), num("a", 1)}, many(17), api.ErrArg},
		{[]api.Prop{num("b", 1), num("a", 1)}, []api.Prop{num("a", 2)}, api.ErrArg},
		{[]api.Prop{num("a", 1), num("a", 1)}, nil, api.ErrArg},
		{nil, []api.Prop{noName}, api.ErrName},
		{nil, []api.Prop{{}}, api.ErrName}, // no name, and no right value: the name first
		{nil, []api.Prop{{Key: "1"}}, api.ErrName},
		{nil, []api.Prop{noKind}, api.ErrKind},
		{nil, []api.Prop{noName, noKind}, api.ErrName},
		{nil, []api.Prop{noKind, noName}, api.ErrKind}, // the first one that has a fault
		{nil, []api.Prop{num("b", 1), noKind, noName}, api.ErrKind},
		{nil, []api.Prop{num("b", 1), noName, noKind}, api.ErrName},
		{nil, []api.Prop{noKind, num("a", 1)}, api.ErrKind}, // set again later, it is a fault all the same
		{full, []api.Prop{{Key: "kA"}}, api.ErrKind},
		{full, []api.Prop{noName}, api.ErrName},
		{full, []api.Prop{num("a", 1)}, api.ErrMany},
		{full, []api.Prop{num("kA", 1), num("z", 1)}, api.ErrMany},
		{full, []api.Prop{num("z", 1), num("z", 1), num("kA", 1)}, api.ErrMany},
		{full[:15], []api.Prop{num("y", 1), num("z", 1)}, api.ErrMany},
		{nil, many(17), api.ErrMany},
		{nil, many(26), api.ErrMany},
		{nil, append(many(17), noName), api.ErrName},
		{nil, append(many(17), noKind), api.ErrKind},
		{full, []api.Prop{num("z", 1), noKind}, api.ErrKind},
	} {
		if got, e := props.Set(c.ps, c.news...); len(got) != 0 || e != c.e {
			t.Errorf("%d: Set(%v, %v): %v, %d", i, c.ps, c.news, got, e)
		}
	}
	for _, ps := range wrongs() {
		if got, e := props.Set(ps); len(got) != 0 || e != api.ErrArg {
			t.Errorf("Set(%v): %v, %d", ps, got, e)
		}
	}
	for _, s := range noNames {
		if got, e := props.Set(full[:1], num("a", 1), num(s, 1), num("b", 1)); len(got) != 0 || e != api.ErrName {
			t.Errorf("Set of %q: %v, %d", s, got, e)
		}
	}
	for _, v := range wrongValues {
		if got, e := props.Set(full[:1], num("a", 1), api.Prop{Key: "b", Val: v}, num("c", 1)); len(got) != 0 || e != api.ErrKind {
			t.Errorf("Set of %v: %v, %d", v, got, e)
		}
	}
}

func TestDrop(t *testing.T) {
	a, b, e := num("a", 1), text("b", "x"), num("é", 3)
	for i, c := range []struct {
		ps   []api.Prop
		keys []string
		want []api.Prop
	}{
		{nil, nil, nil},
		{nil, []string{"a"}, nil},
		{[]api.Prop{a, b, e}, nil, []api.Prop{a, b, e}},
		{[]api.Prop{a, b, e}, []string{"a"}, []api.Prop{b, e}},
		{[]api.Prop{a, b, e}, []string{"b", "z"}, []api.Prop{a, e}},
		{[]api.Prop{a, b, e}, []string{"é", "é"}, []api.Prop{a, b}},
		{[]api.Prop{a, b, e}, []string{"é", "a"}, []api.Prop{b}},
		{[]api.Prop{a, b, e}, []string{"é", "a", "b"}, nil},
		{[]api.Prop{a, b, e}, []string{"A", "", "É", "\xc3", "ab", "1"}, []api.Prop{a, b, e}},
		{many(16), []string{"kP"}, many(15)},
		{[]api.Prop{b, a, b, e, a, {}}, []string{"b"}, []api.Prop{a, e, a, {}}}, // a list that isn't right
		{[]api.Prop{b, a, {}, {Key: "1"}}, []string{"", "1"}, []api.Prop{b, a}},
		{[]api.Prop{num("\xff", 1), num("\uFFFD", 2)}, []string{"\xff"}, []api.Prop{num("\uFFFD", 2)}},
		{many(26), []string{"kA"}, many(26)[1:]},
		{make([]api.Prop, 17), []string{"a"}, make([]api.Prop, 17)},
	} {
		if got := props.Drop(c.ps, c.keys...); !slices.Equal(got, c.want) {
			t.Errorf("%d: Drop(%v, %q): %v", i, c.ps, c.keys, got)
		}
	}
}

// sorted is a list of what a map has.
func sorted(of map[string]api.Value) []api.Prop {
	var out []api.Prop
	for _, k := range slices.SortedFunc(maps.Keys(of), letter.Compare) {
		out = append(out, api.Prop{Key: k, Val: of[k]})
	}
	return out
}

func mapped(ps ...api.Prop) map[string]api.Value {
	out := map[string]api.Value{}
	for _, p := range ps {
		out[p.Key] = p.Val
	}
	return out
}

func TestSetAndDropAreThoseOfAMap(t *testing.T) {
	one, x := api.Value{Kind: api.Int, N: 1}, api.Value{Kind: api.Text, S: "x"}
	lists := smalls([]string{"B", "b", "é"}, []api.Value{one, x})
	pieces := []api.Prop{num("B", 1), num("b", 2), text("b", "x"), num("a", 1), text("é", "")}
	for _, ps := range lists {
		for _, picks := range samples.Texts(3, "\x00", "\x01", "\x02", "\x03", "\x04") {
			var news []api.Prop
			var keys []string
			for i := range len(picks) {
				news = append(news, pieces[picks[i]])
				keys = append(keys, pieces[picks[i]].Key)
			}
			if got, e := props.Set(ps, news...); !slices.Equal(got, sorted(mapped(append(slices.Clip(ps), news...)...))) || e != api.OK || !props.Right(got) {
				t.Fatalf("Set(%v, %v): %v, %d", ps, news, got, e)
			}
			left := mapped(ps...)
			for _, k := range keys {
				delete(left, k)
			}
			if got := props.Drop(ps, keys...); !slices.Equal(got, sorted(left)) || !props.Right(got) {
				t.Fatalf("Drop(%v, %q): %v", ps, keys, got)
			}
		}
	}
}

// P3.3

var laid = []struct {
	ps []api.Prop
	b  string
}{
	{nil, "\x00"},
	{[]api.Prop{num("b", 2)}, "\x01\x01b\x01\x80\x00\x00\x00\x00\x00\x00\x02"},
	{[]api.Prop{text("a", "x"), num("b", 2)}, "\x02\x01a\x02x\x00\x00\x01b\x01\x80\x00\x00\x00\x00\x00\x00\x02"},
	{[]api.Prop{text("a", "")}, "\x01\x01a\x02\x00\x00"},
	{[]api.Prop{text("a", "\x00\xff")}, "\x01\x01a\x02\x00\xff\xff\x00\x00"},
	{[]api.Prop{num("a", -1), text("ab", "b")}, "\x02\x01a\x01\x7f\xff\xff\xff\xff\xff\xff\xff\x02ab\x02b\x00\x00"},
	{[]api.Prop{text("Äé", "é")}, "\x01\x04\xc3\x84\xc3\xa9\x02\xc3\xa9\x00\x00"},
	{[]api.Prop{text(longName, a200)}, "\x01\x40" + longName + "\x02" + a200 + "\x00\x00"},
}

func TestBytes(t *testing.T) {
	for _, c := range laid {
		if b, e := props.Bytes(c.ps); string(b) != c.b || e != api.OK {
			t.Errorf("Bytes(%v): %x, %d", c.ps, b, e)
		}
	}
	for i, ps := range wrongs() {
		if b, e := props.Bytes(ps); len(b) != 0 || e != api.ErrArg {
			t.Errorf("%d: Bytes(%v): %x, %d", i, ps, b, e)
		}
	}
}

func TestBytesAreAsTheyAreLaid(t *testing.T) {
	for i, ps := range rights() {
		want := []byte{byte(len(ps))}
		for _, p := range ps {
			val, e := value.Bytes(p.Val)
			if e != api.OK {
				t.Fatalf("%d: %v: %d", i, p, e)
			}
			want = append(append(append(want, byte(len(p.Key))), p.Key...), val...)
		}
		if b, e := props.Bytes(ps); !slices.Equal(b, want) || e != api.OK {
			t.Errorf("%d: Bytes(%v): %x, %d", i, ps, b, e)
		}
	}
}

// takes holds what Take answers of b against what is wanted.
func takes(t *testing.T, b string, ps []api.Prop, n int, e api.Errno) {
	t.Helper()
	if gotPs, gotN, gotE := props.Take([]byte(b)); !slices.Equal(gotPs, ps) || gotN != n || gotE != e {
		t.Errorf("Take(%q): %v, %d, %d; wanted: %v, %d, %d", b, gotPs, gotN, gotE, ps, n, e)
	}
}

func TestTake(t *testing.T) {
	for _, c := range laid {
		for _, behind := range []string{"", "\x00", "\x01", "\x11", "\xff", "\x01a\x02\x00\x00", a201} { // bytes behind the list are others'
			takes(t, c.b+behind, c.ps, len(c.b), api.OK)
		}
	}
}

func TestTakeOfWhatEndsAmidAList(t *testing.T) {
	takes(t, "", nil, 0, api.ErrShort)
	if ps, n, e := props.Take(nil); len(ps) != 0 || n != 0 || e != api.ErrShort {
		t.Errorf("Take(nil): %v, %d, %d", ps, n, e)
	}
	for i, ps := range rights() {
		b, e := props.Bytes(ps)
		if e != api.OK {
			t.Fatalf("%d: %d", i, e)
		}
		for n := range len(b) {
			takes(t, string(b[:n]), nil, 0, api.ErrShort)
		}
	}
}

func TestTakeOfACount(t *testing.T) {
	sixteen, e := props.Bytes(many(16))
	if e != api.OK {
		t.Fatal(e)
	}
	takes(t, string(sixteen)+"behind", many(16), len(sixteen), api.OK)
	for count := range 256 {
		first, want := string([]byte{byte(count)}), api.ErrShort
		switch {
		case count == 0:
			takes(t, first, nil, 1, api.OK)
			continue
		case count > 16:
			want = api.ErrForm
		}
		takes(t, first, nil, 0, want)
		for i, body := range []string{"\x011", "\x01a\x07", "\x00"} {
			if count <= 16 {
				want = []api.Errno{api.ErrName, api.ErrKind, api.ErrName}[i]
			}
			takes(t, first+body, nil, 0, want) // the count stands ahead of the others' faults
		}
		if count > 16 {
			takes(t, first+string(sixteen[1:])+"\x02kZ\x02\x00\x00", nil, 0, api.ErrForm)
		}
	}
}

func TestTakeOfFaults(t *testing.T) {
	const a1 = "\x01a\x01\x80\x00\x00\x00\x00\x00\x00\x01"
	for b, e := range map[string]api.Errno{
		"\x01\x00":                                        api.ErrName, // a Key of no bytes is wholly there
		"\x01\x00\x02\x00\x00":                            api.ErrName,
		"\x01\x011":                                       api.ErrName,
		"\x01\x021":                                       api.ErrShort, // it isn't wholly there
		"\x01\x03a-":                                      api.ErrShort,
		"\x01\x03a-b":                                     api.ErrName,
		"\x01\x01\xc3":                                    api.ErrName, // half a rune
		"\x01\x02\xc3\xa9":                                api.ErrShort,
		"\x01\x02\xc3\xa9\x09":                            api.ErrKind,
		"\x01\x01\xff":                                    api.ErrName,
		"\x01\x42" + tooLong:                              api.ErrName, // wholly there, and too long
		"\x01\x42" + tooLong[:len(tooLong)-1]:             api.ErrShort,
		"\x01\x42" + tooLong + "\x07":                     api.ErrName,
		"\x01\xff" + strings.Repeat("a", 255):             api.ErrName,
		"\x01\xff" + strings.Repeat("a", 254):             api.ErrShort,
		"\x01\xff":                                        api.ErrShort,
		"\x01\x01a":                                       api.ErrShort,
		"\x01\x01a\x00":                                   api.ErrKind,
		"\x01\x01a\x07":                                   api.ErrKind,
		"\x01\x01a\xff\x00\x00":                           api.ErrKind,
		"\x01\x01a\x02\x00":                               api.ErrShort,
		"\x01\x01a\x02\x00\x01":                           api.ErrForm,
		"\x01\x01a\x02" + a200 + "\x00\x00":               api.OK,
		"\x01\x01a\x02" + a201:                            api.ErrMany,
		"\x01\x01a\x02" + a201 + "\x00\x00":               api.ErrMany,
		"\x01\x01a\x02" + a200 + "\x00\x01":               api.ErrForm,
		"\x01\x01a\x02" + a200:                            api.ErrShort,
		"\x02" + a1:                                       api.ErrShort,
		"\x02" + a1 + "\x01":                              api.ErrShort,
		"\x02" + a1 + a1:                                  api.ErrName, // a Key twice
		"\x02" + a1 + "\x01a":                             api.ErrName,
		"\x02" + a1 + "\x01Z":                             api.ErrName, // not above the one ahead
		"\x02" + a1 + "\x01Z\x07":                         api.ErrName,
		"\x02" + a1 + "\x02Z":                             api.ErrShort,
		"\x02" + a1 + "\x00":                              api.ErrName,
		"\x02" + a1 + "\x02a1":                            api.ErrShort,
		"\x02" + a1 + "\x02a1\x07":                        api.ErrKind,
		"\x02" + a1 + "\x01b\x02" + a201:                  api.ErrMany,
		"\x02" + a1 + "\x01b\x02\x00\x07":                 api.ErrForm,
		"\x02\x01a\x07\x011\x07":                          api.ErrKind, // the first one's fault comes first
		"\x02\x011\x02\x00\x00\x01a\x07":                  api.ErrName,
		"\x03" + a1 + "\x01c\x02\x00\x00\x01b":            api.ErrName,
		"\x02\x02aa\x02\x00\x00\x01a\x02\x00\x00":         api.ErrName,
		"\x02\x02\xc3\xa9\x02\x00\x00\x01z\x02\x00\x00":   api.ErrName,
		"\x02\x01z\x02\x00\x00\x02\xc3\xa9\x02\x00\x00":   api.OK,
		"\x02\x01a\x02\x00\x00\x01b\x02\x00\x00\x01a\x07": api.OK, // what stands behind the list is others'
	} {
		ps, n, got := props.Take([]byte(b))
		if got != e || e != api.OK && (len(ps) != 0 || n != 0) {
			t.Errorf("Take(%q): %v, %d, %d; wanted: %d", b, ps, n, got, e)
		}
	}
	for _, s := range noNames {
		takes(t, "\x01"+string([]byte{byte(len(s))})+s+"\x07", nil, 0, api.ErrName)
		takes(t, "\x02\x01A\x02\x00\x00"+string([]byte{byte(len(s))})+s+"\x02\x00\x00", nil, 0, api.ErrName)
	}
}

// fault is what P3.3 says of bytes by their first fault, read word by word.
func fault(b string) api.Errno {
	if b == "" {
		return api.ErrShort
	}
	if b[0] > 16 {
		return api.ErrForm
	}
	at, ahead := 1, ""
	for range b[0] {
		if at == len(b) || at+1+int(b[at]) > len(b) {
			return api.ErrShort
		}
		key := b[at+1 : at+1+int(b[at])]
		if !letter.Right(key) || ahead != "" && letter.Compare(ahead, key) >= 0 {
			return api.ErrName
		}
		at, ahead = at+1+len(key), key
		_, n, e := value.Take([]byte(b[at:]))
		if e != api.OK {
			return e
		}
		at += n
	}
	return api.OK
}

func TestTakeIsWhatTheWordsSay(t *testing.T) {
	known := map[string][]api.Prop{}
	for _, ps := range smalls([]string{"a", "b", "ba"}, []api.Value{{Kind: api.Text}, {Kind: api.Text, S: "a"}, {Kind: api.Text, S: "\x00"}, {Kind: api.Text, S: "b"}}) {
		b, e := props.Bytes(ps)
		if e != api.OK {
			t.Fatalf("Bytes(%v): %d", ps, e)
		}
		known[string(b)] = ps
	}
	try := func(b string) {
		e := fault(b)
		var ps []api.Prop
		n, found := 0, false
		for i := range len(b) + 1 {
			if k, ok := known[b[:i]]; ok {
				ps, n, found = k, i, true
			}
		}
		if found && e != api.OK {
			t.Fatalf("%q: a list's bytes, and a fault: %d", b, e)
		}
		if found || e != api.OK { // other lists' are not known here
			takes(t, b, ps, n, e)
		}
	}
	for _, b := range samples.Texts(6, "\x00", "\x01", "\x02", "a", "b", "\x11", "\xff") {
		try(b)
	}
	for _, b := range samples.Texts(6, "\x01a", "\x01b", "\x02ba", "\x02\x00\x00", "\x02a\x00\x00", "\x00") {
		try("\x01" + b)
		try("\x02" + b)
		try("\x03" + b)
	}
}

// Bytes that are a right list's but for one are either no list's, or just another one's.
func TestTakeOfEachByteTurned(t *testing.T) {
	for _, c := range laid[:7] {
		for i := range c.b {
			for r := range 256 {
				b := []byte(c.b)
				b[i] = byte(r)
				ps, n, e := props.Take(b)
				if want := fault(string(b)); e != want {
					t.Errorf("Take(%q): %d; wanted: %d", b, e, want)
				}
				if e != api.OK {
					continue
				}
				if again, e := props.Bytes(ps); !slices.Equal(again, b[:n]) || e != api.OK {
					t.Errorf("Take(%q): %v, whose bytes are others: %q", b, ps, again)
				}
			}
		}
	}
}

// P3.4

func TestListsAreReadBack(t *testing.T) {
	var all []byte
	for i, ps := range rights() {
		b, e := props.Bytes(ps)
		if e != api.OK {
			t.Fatalf("%d: %d", i, e)
		}
		takes(t, string(b), ps, len(b), api.OK)
		all = append(all, b...)
	}
	for i, want := range rights() { // one behind the other
		ps, n, e := props.Take(all)
		if !props.Same(ps, want) || n < 1 || e != api.OK {
			t.Fatalf("%d: Take: %v, %d, %d", i, ps, n, e)
		}
		all = all[n:]
	}
	if len(all) > 0 {
		t.Errorf("%d bytes are left", len(all))
	}
}

func TestSetAndDropOfRightListsAreRight(t *testing.T) {
	for i, ps := range rights() {
		for j, news := range rights() {
			got, e := props.Set(ps, news...)
			if want := sorted(mapped(append(slices.Clip(ps), news...)...)); len(want) > 16 {
				if len(got) != 0 || e != api.ErrMany {
					t.Errorf("%d, %d: Set: %v, %d", i, j, got, e)
				}
			} else if !slices.Equal(got, want) || e != api.OK || !props.Right(got) {
				t.Errorf("%d, %d: Set: %v, %d", i, j, got, e)
			}
			var keys []string
			for _, p := range news {
				keys = append(keys, p.Key)
			}
			if !props.Right(props.Drop(ps, keys...)) {
				t.Errorf("%d, %d: Drop: not right", i, j)
			}
		}
	}
}

// spare is a list with room behind it, in which something stands.
func spare(ps []api.Prop) (list, whole []api.Prop) {
	whole = append(apart(ps), num("spare", 1), num("spare", 2), num("spare", 3))
	return whole[:len(ps)], whole
}

func TestArgumentsStayAsTheyWere(t *testing.T) {
	for i, c := range append(rights(), wrongs()...) {
		ps, whole := spare(c)
		news, wholeNews := spare([]api.Prop{num("b", 1), num("a", 1), num("kC", 5), num("b", 2)})
		was, wasNews := apart(whole), apart(wholeNews)
		allKeys := []string{"a", "kA", "b", "z", "y"}
		keys := allKeys[:3]
		props.Right(ps)
		props.Get(ps, "kA")
		props.Same(ps, news)
		props.Set(ps, news...)
		props.Set(news, ps...)
		props.Drop(ps, keys...)
		props.Bytes(ps)
		if !slices.Equal(whole, was) || !slices.Equal(wholeNews, wasNews) {
			t.Errorf("%d: a list was changed: %v, %v", i, whole, wholeNews)
		}
		if !slices.Equal(allKeys, []string{"a", "kA", "b", "z", "y"}) {
			t.Errorf("%d: the keys were changed: %q", i, allKeys)
		}
	}
	for _, c := range laid {
		b := []byte(c.b + "behind it")
		props.Take(b[:len(c.b)])
		if string(b) != c.b+"behind it" {
			t.Errorf("Take changed its argument: %q", b)
		}
	}
}

// pieces are where the texts of a list lie.
func pieces(ps []api.Prop) map[*byte]int {
	out := map[*byte]int{}
	for _, p := range ps {
		for _, s := range []string{p.Key, p.Val.S} {
			if s != "" {
				out[unsafe.StringData(s)] = len(s)
			}
		}
	}
	return out
}

// shared: do two lists share memory, in their texts or in themselves, room behind them included?
func shared(a, b []api.Prop) bool {
	in := pieces(b)
	for at := range pieces(a) {
		if in[at] > 0 {
			return true
		}
	}
	for i := range a[:cap(a)] {
		for j := range b[:cap(b)] {
			if &a[:cap(a)][i] == &b[:cap(b)][j] {
				return true
			}
		}
	}
	return false
}

func TestAnswersAreNewMemory(t *testing.T) {
	ps := apart([]api.Prop{text("b", "xy"), text("c", "yz"), num("d", 1)})
	news := apart([]api.Prop{text("a", "new"), text("c", "newer"), text("e", "last")})
	answers := map[string][]api.Prop{}
	answers["Set"], _ = props.Set(ps, news...)
	answers["Set of an empty list"], _ = props.Set(nil, news...)
	answers["Set of nothing"], _ = props.Set(ps)
	answers["Set of one in its place"], _ = props.Set(ps, news[1])
	answers["Drop"] = props.Drop(ps, "c")
	answers["Drop of nothing"] = props.Drop(ps)
	answers["Drop of all"] = props.Drop(ps, "b", "c", "d")
	v, _ := props.Get(ps, "b")
	answers["Get"] = []api.Prop{{Key: strings.Clone("b"), Val: v}}
	for name, got := range answers {
		if shared(got, ps) || shared(got, news) {
			t.Errorf("%s shares memory with its arguments", name)
		}
		for other, o := range answers {
			if name != other && shared(got, o) {
				t.Errorf("%s shares memory with %s", name, other)
			}
		}
	}
}

func TestTakeKeepsNothing(t *testing.T) {
	for _, c := range laid {
		b := []byte(c.b)
		ps, _, _ := props.Take(b)
		clear(b)
		if !slices.Equal(ps, c.ps) {
			t.Errorf("Take(%q) answers what it was handed", c.b)
		}
		first, _ := props.Bytes(c.ps)
		clear(first[:cap(first)])
		if again, _ := props.Bytes(c.ps); string(again) != c.b {
			t.Errorf("Bytes(%v) answers twice the same memory", c.ps)
		}
	}
}
