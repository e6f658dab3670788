package disk_test

import (
	"bytes"
	"math"
	"slices"
	"testing"

	"cobweb/api"
	"cobweb/disk"
	"cobweb/samples"
)

const maxRoom = 1 << 30

func made(t testing.TB, room int) *disk.Disk {
	t.Helper()
	d, e := disk.New(room)
	if d == nil || e != api.OK {
		t.Fatalf("New(%d): %v, %d", room, d, e)
	}
	return d
}

// holding is a disk of some room with those bytes, the first ones safe.
func holding(t testing.TB, room int, safe, loose string) *disk.Disk {
	t.Helper()
	d := made(t, room)
	wantAppend(t, d, api.OK, safe)
	if n := d.Flush(); n != len(safe) {
		t.Fatalf("Flush of %q: %d", safe, n)
	}
	wantAppend(t, d, api.OK, loose)
	wantState(t, d, room, safe, loose)
	return d
}

// wantState: all that a disk tells.
func wantState(t testing.TB, d *disk.Disk, room int, safe, loose string) {
	t.Helper()
	all := safe + loose
	if got := d.Bytes(); string(got) != all {
		t.Fatalf("Bytes: %q; wanted: %q, and %q of them safe", got, all, safe)
	}
	if d.Len() != len(all) || d.Safe() != len(safe) || d.Left() != room-len(all) {
		t.Fatalf("of room %d: Len %d, Safe %d, Left %d; wanted: %q, and behind them %q", room, d.Len(), d.Safe(), d.Left(), safe, loose)
	}
}

func wantAppend(t testing.TB, d *disk.Disk, want api.Errno, texts ...string) {
	t.Helper()
	var bs [][]byte
	for _, s := range texts {
		bs = append(bs, []byte(s))
	}
	if e := d.Append(bs...); e != want {
		t.Fatalf("Append(%q): %d; wanted: %d", texts, e, want)
	}
}

func wantFlush(t testing.TB, d *disk.Disk, want int) {
	t.Helper()
	if n := d.Flush(); n != want {
		t.Fatalf("Flush: %d; wanted: %d", n, want)
	}
}

func wantCrash(t testing.TB, d *disk.Disk, keep, want int) {
	t.Helper()
	if n := d.Crash(keep); n != want {
		t.Fatalf("Crash(%d): %d; wanted: %d", keep, n, want)
	}
}

func wantCut(t testing.TB, d *disk.Disk, n int, want api.Errno) {
	t.Helper()
	if e := d.Cut(n); e != want {
		t.Fatalf("Cut(%d): %d; wanted: %d", n, e, want)
	}
}

// P7.1

func TestNew(t *testing.T) {
	for _, room := range []int{0, 1, 2, 6, 1000, 1 << 16, 1 << 20, maxRoom - 1, maxRoom} {
		wantState(t, made(t, room), room, "", "")
	}
}

func TestNewOfNoRoom(t *testing.T) {
	for _, room := range []int{-1, -2, -maxRoom, -1 << 32, -1<<32 + 1, math.MinInt + 1, math.MinInt, maxRoom + 1, maxRoom + 2, 1 << 31, 1 << 32, 1<<32 + 1, 1 << 62, math.MaxInt} {
		if d, e := disk.New(room); d != nil || e != api.ErrArg {
			t.Errorf("New(%d): %v, %d", room, d, e)
		}
	}
}

func TestTheDocumentsExample(t *testing.T) {
	d := made(t, 100)
	wantAppend(t, d, api.OK, "ab")
	wantFlush(t, d, 2)
	wantAppend(t, d, api.OK, "cd")
	wantCrash(t, d, 1, 3)
	wantState(t, d, 100, "abc", "")
}

func TestRoom0(t *testing.T) {
	d := made(t, 0)
	wantAppend(t, d, api.OK)
	wantAppend(t, d, api.OK, "", "")
	wantAppend(t, d, api.ErrFull, "a")
	wantAppend(t, d, api.ErrFull, "", "a")
	wantFlush(t, d, 0)
	for _, keep := range []int{math.MinInt, -1, 0, 1, math.MaxInt} {
		wantCrash(t, d, keep, 0)
	}
	wantCut(t, d, 0, api.OK)
	wantCut(t, d, 1, api.ErrArg)
	wantCut(t, d, -1, api.ErrArg)
	wantState(t, d, 0, "", "")
}

func TestTheGreatestRoom(t *testing.T) {
	d := made(t, maxRoom)
	bs := make([]byte, maxRoom+1)
	for _, over := range [][][]byte{{bs}, {bs[1:], bs[:1]}, {bs[:1], bs[1:]}, {bs[1:], bs[1:], bs[1:], bs[1:]}} {
		if e := d.Append(over...); e != api.ErrFull {
			t.Fatalf("Append of more than 2^30 bytes: %d", e)
		}
		wantState(t, d, maxRoom, "", "")
	}
	if e := d.Append(bs[1:]); e != api.OK || d.Len() != maxRoom || d.Left() != 0 || d.Safe() != 0 {
		t.Fatalf("Append of 2^30 bytes: %d, Len %d, Left %d, Safe %d", e, d.Len(), d.Left(), d.Safe())
	}
	wantAppend(t, d, api.ErrFull, "a")
	wantFlush(t, d, maxRoom)
	if d.Len() != maxRoom || d.Safe() != maxRoom || d.Left() != 0 {
		t.Fatalf("a full disk: Len %d, Safe %d, Left %d", d.Len(), d.Safe(), d.Left())
	}
	wantCut(t, d, maxRoom+1, api.ErrArg)
	wantCut(t, d, 1, api.OK)
	wantState(t, d, maxRoom, "\x00", "")
}

func TestAppendOfNothing(t *testing.T) {
	for _, loose := range []string{"", "c", "cd"} { // at last there is no room left
		d := holding(t, 4, "ab", loose)
		for _, bs := range [][][]byte{nil, {}, {nil}, {{}}, {nil, nil}, {{}, nil, {}}} {
			if e := d.Append(bs...); e != api.OK {
				t.Errorf("Append(%q): %d", bs, e)
			}
			wantState(t, d, 4, "ab", loose)
		}
	}
}

func TestAppendOfSeveral(t *testing.T) {
	d := made(t, 20)
	wantAppend(t, d, api.OK, "a", "", "bc", "d")
	wantState(t, d, 20, "", "abcd")
	wantAppend(t, d, api.OK, "", "\x00\xff", "")
	wantState(t, d, 20, "", "abcd\x00\xff")
	same := []byte("xy")
	if e := d.Append(same, same, same[1:], same[:1]); e != api.OK {
		t.Errorf("Append of one slice twice: %d", e)
	}
	wantState(t, d, 20, "", "abcd\x00\xffxyxyyx")
	wantFlush(t, d, 12)
	wantAppend(t, d, api.OK, "1", "2")
	wantState(t, d, 20, "abcd\x00\xffxyxyyx", "12")
}

func TestAppendOfEachByte(t *testing.T) {
	d := made(t, 256)
	want := make([]byte, 256)
	for i := range want {
		want[i] = byte(i)
		if e := d.Append(want[i : i+1]); e != api.OK {
			t.Fatalf("Append of %d: %d", i, e)
		}
	}
	wantState(t, d, 256, "", string(want))
	wantAppend(t, d, api.ErrFull, "a")
}

func TestAppendOfJustWhatIsLeftAndOfOneMore(t *testing.T) {
	const text = "abcdefghij"
	for room := range 8 {
		for there := range room + 1 {
			for safe := range there + 1 {
				for n := range room - there + 4 {
					for _, texts := range samples.Cuttings(text[there : there+n]) {
						d := holding(t, room, text[:safe], text[safe:there])
						if there+n > room { // nothing is laid, be the first of them ever so short
							wantAppend(t, d, api.ErrFull, texts...)
							wantState(t, d, room, text[:safe], text[safe:there])
							continue
						}
						wantAppend(t, d, api.OK, texts...)
						wantState(t, d, room, text[:safe], text[safe:there+n])
					}
				}
			}
		}
	}
}

func TestAFullDiskGoesOnBehindItsError(t *testing.T) {
	d := holding(t, 5, "a", "b")
	wantAppend(t, d, api.ErrFull, "c", "def")
	wantAppend(t, d, api.ErrFull, "cdef")
	wantAppend(t, d, api.OK, "cd")
	wantState(t, d, 5, "a", "bcd")
	wantAppend(t, d, api.ErrFull, "e", "", "f")
	wantAppend(t, d, api.OK, "", "e")
	wantAppend(t, d, api.ErrFull, "f")
	wantState(t, d, 5, "a", "bcde")
	wantCrash(t, d, 1, 2)
	wantAppend(t, d, api.OK, "xyz")
	wantState(t, d, 5, "ab", "xyz")
}

func TestFlush(t *testing.T) {
	d := made(t, 6)
	wantFlush(t, d, 0)
	wantFlush(t, d, 0)
	wantState(t, d, 6, "", "")
	wantAppend(t, d, api.OK, "ab")
	wantState(t, d, 6, "", "ab")
	wantFlush(t, d, 2)
	wantState(t, d, 6, "ab", "")
	wantFlush(t, d, 2)
	wantState(t, d, 6, "ab", "")
	wantAppend(t, d, api.OK, "cdef")
	wantState(t, d, 6, "ab", "cdef")
	wantFlush(t, d, 6)
	wantState(t, d, 6, "abcdef", "")
}

// P7.2

func TestCrash(t *testing.T) {
	const text = "abcdefgh"
	for there := range 7 {
		for safe := range there + 1 {
			for _, keep := range []int{math.MinInt, math.MinInt + 1, -1 << 32, -1<<32 + 1, -there - 1, -there, -2, -1, 0, 1, 2, 3, 4, 5, 6, 7, 8, 1 << 31, 1 << 32, math.MaxInt - safe, math.MaxInt - 1, math.MaxInt} {
				d := holding(t, 8, text[:safe], text[safe:there])
				want := safe + max(0, min(keep, there-safe))
				wantCrash(t, d, keep, want)
				wantState(t, d, 8, text[:want], "")
				for _, again := range []int{-1, 0, 1, math.MaxInt} { // all is safe
					wantCrash(t, d, again, want)
				}
				wantAppend(t, d, api.OK, "XY")
				wantState(t, d, 8, text[:want], "XY")
				wantCrash(t, d, 1, want+1)
				wantState(t, d, 8, text[:want]+"X", "")
			}
		}
	}
}

func TestCrashKeepsOneLessThanThereIs(t *testing.T) {
	d := holding(t, 9, "ab", "cde")
	wantCrash(t, d, 2, 4)
	wantState(t, d, 9, "abcd", "")

	d = holding(t, 9, "ab", "cde")
	wantCrash(t, d, 3, 5)
	wantState(t, d, 9, "abcde", "")

	d = holding(t, 9, "ab", "cde")
	wantCrash(t, d, 4, 5)
	wantState(t, d, 9, "abcde", "")

	d = holding(t, 9, "", "cde")
	wantCrash(t, d, 0, 0)
	wantState(t, d, 9, "", "")
}

func TestCut(t *testing.T) {
	const text = "abcdefgh"
	for there := range 7 {
		for safe := range there + 1 {
			for n := range there + 1 {
				d := holding(t, 8, text[:safe], text[safe:there])
				wantCut(t, d, n, api.OK)
				wantState(t, d, 8, text[:n], "")
				wantCut(t, d, n+1, api.ErrArg) // what was cut off is there no more
				wantAppend(t, d, api.OK, "XY")
				wantState(t, d, 8, text[:n], "XY")
				wantCrash(t, d, 0, n)
				wantState(t, d, 8, text[:n], "")
			}
		}
	}
}

func TestCutOfWrongNumbers(t *testing.T) {
	const text = "abcdef"
	for there := range len(text) + 1 {
		for safe := range there + 1 {
			d := holding(t, 6, text[:safe], text[safe:there])
			for _, n := range []int{-1, -2, -6, -1 << 31, -1 << 32, -1<<32 + 1, math.MinInt, math.MinInt + 1, there + 1, there + 2, 7, 1 << 31, 1 << 32, 1<<32 + 1, math.MaxInt - 1, math.MaxInt} {
				wantCut(t, d, n, api.ErrArg)
				wantState(t, d, 6, text[:safe], text[safe:there])
			}
		}
	}
}

func TestRoomThatIsLetGoIsThereAgain(t *testing.T) {
	d := holding(t, 4, "ab", "cd")
	wantAppend(t, d, api.ErrFull, "e")
	wantCut(t, d, 1, api.OK)
	wantAppend(t, d, api.ErrFull, "bcde")
	wantAppend(t, d, api.OK, "xyz")
	wantState(t, d, 4, "a", "xyz")
	wantCrash(t, d, 2, 3)
	wantAppend(t, d, api.ErrFull, "12")
	wantAppend(t, d, api.OK, "1")
	wantState(t, d, 4, "axy", "1")
	wantCut(t, d, 0, api.OK)
	wantAppend(t, d, api.OK, "long")
	wantState(t, d, 4, "", "long")
	wantFlush(t, d, 4)
	wantState(t, d, 4, "long", "")
}

// P7.3

// both are a disk and what it ought to be.
type both struct {
	d           *disk.Disk
	room        int
	safe, loose string
}

func (b *both) append(t testing.TB, texts ...string) {
	t.Helper()
	all := ""
	for _, s := range texts {
		all += s
	}
	if len(b.safe)+len(b.loose)+len(all) > b.room {
		wantAppend(t, b.d, api.ErrFull, texts...)
		return
	}
	wantAppend(t, b.d, api.OK, texts...)
	b.loose += all
}

func (b *both) flush(t testing.TB) {
	t.Helper()
	b.safe, b.loose = b.safe+b.loose, ""
	wantFlush(t, b.d, len(b.safe))
}

func (b *both) crash(t testing.TB, keep int) {
	t.Helper()
	kept := ""
	for _, c := range []byte(b.loose) {
		if len(kept) < keep {
			kept += string([]byte{c})
		}
	}
	b.safe, b.loose = b.safe+kept, ""
	wantCrash(t, b.d, keep, len(b.safe))
}

func (b *both) cut(t testing.TB, n int) {
	t.Helper()
	all := b.safe + b.loose
	if n < 0 || n > len(all) {
		wantCut(t, b.d, n, api.ErrArg)
		return
	}
	wantCut(t, b.d, n, api.OK)
	b.safe, b.loose = all[:n], ""
}

// do makes the step that a letter stands for; text are bytes to lay.
func (b *both) do(t testing.TB, step byte, text string) {
	t.Helper()
	switch step {
	case 'a':
		b.append(t, text[:1])
	case 'b':
		b.append(t, text[:1], "", text[1:3])
	case 'f':
		b.flush(t)
	case 'c':
		b.crash(t, 0)
	case 'k':
		b.crash(t, 2)
	case 'u':
		b.cut(t, 2)
	case 'w':
		b.cut(t, b.d.Len()-1)
	}
	wantState(t, b.d, b.room, b.safe, b.loose)
}

func TestAllShortScripts(t *testing.T) {
	const text = "0123456789"
	for _, script := range samples.Texts(5, "a", "b", "f", "c", "k", "u", "w") {
		b := &both{d: made(t, 5), room: 5}
		for i := range len(script) {
			b.do(t, script[i], text[i:])
		}
	}
}

func TestLongScripts(t *testing.T) {
	for seed := range uint64(40) {
		roll := samples.Dice(seed)
		b := &both{room: roll(400)}
		b.d = made(t, b.room)
		for range 300 {
			text := make([]byte, 40)
			for i := range text {
				text[i] = byte(roll(256))
			}
			there := b.d.Len()
			switch roll(8) {
			case 0:
				b.flush(t)
			case 1:
				b.crash(t, roll(60)-20)
			case 2:
				b.cut(t, there-roll(20))
			case 3:
				b.cut(t, there+1+roll(5))
			default:
				i, j := roll(20), 20+roll(20)
				b.append(t, string(text[:i]), string(text[i:j]), string(text[j:]))
			}
			wantState(t, b.d, b.room, b.safe, b.loose)
		}
	}
}

func TestACrashLeavesTheSafeBytesAndABeginningOfTheOthers(t *testing.T) {
	roll := samples.Dice(1)
	for range 2000 {
		d := made(t, 100)
		for range roll(6) {
			d.Append(bytes.Repeat([]byte{byte(roll(256))}, roll(15)))
			if roll(3) == 0 {
				d.Flush()
			}
		}
		was, safe := d.Bytes(), d.Safe()
		n := d.Crash(roll(60) - 10)
		if n < safe || n > len(was) || !bytes.Equal(d.Bytes(), was[:n]) || d.Safe() != n {
			t.Fatalf("%q, %d of them safe; behind a crash: %d, %q", was, safe, n, d.Bytes())
		}
	}
}

func TestBytesAnswersNewMemory(t *testing.T) {
	d := holding(t, 20, "ab", "cd")
	first, second := d.Bytes(), d.Bytes()
	_ = append(first, "XY"...)
	clear(first[:cap(first)])
	if string(second) != "abcd" {
		t.Errorf("one answer was written into, and another one is %q", second)
	}
	wantState(t, d, 20, "ab", "cd")
	wantAppend(t, d, api.OK, "ef")
	wantState(t, d, 20, "ab", "cdef")
	third := d.Bytes()
	wantCut(t, d, 1, api.OK)
	wantAppend(t, d, api.OK, "wxyz")
	if string(second) != "abcd" || string(third) != "abcdef" {
		t.Errorf("the disk went on, and answers from ahead of that are %q, %q", second, third)
	}
	clear(third[:cap(third)])
	wantState(t, d, 20, "a", "wxyz")
}

func TestBytesOfAnEmptyDiskAreNewMemoryToo(t *testing.T) {
	d := holding(t, 20, "abc", "")
	wantCut(t, d, 0, api.OK)
	empty := d.Bytes()
	wantAppend(t, d, api.OK, "xyz")
	_ = append(empty, "123"...)
	wantState(t, d, 20, "", "xyz")
}

func TestWhatIsHandedInIsNeitherChangedNorKept(t *testing.T) {
	for _, there := range []string{"", "1", "1234"} {
		d := holding(t, 20, there, "")
		room := []byte("abcd....ef..")
		one, other := room[:4], room[8:10] // each has spare room
		bs := [][]byte{one, nil, other}
		if e := d.Append(bs[:2]...); e != api.OK {
			t.Fatalf("Append: %d", e)
		}
		wantAppend(t, d, api.OK, "xy") // mustn't go into the spare room
		if e := d.Append(bs...); e != api.OK {
			t.Fatalf("Append: %d", e)
		}
		wantCrash(t, d, 7, len(there)+7)
		wantAppend(t, d, api.OK, "z")
		if string(room) != "abcd....ef.." || !slices.EqualFunc(bs, [][]byte{[]byte("abcd"), nil, []byte("ef")}, bytes.Equal) || bs[1] != nil {
			t.Fatalf("what was handed in was changed: %q, %q", room, bs)
		}
		clear(room)
		clear(bs)
		wantState(t, d, 20, there+"abcdxya", "z")
	}
}

func TestWhatIsHandedInBesideAnErrorIsntKept(t *testing.T) {
	d := holding(t, 4, "a", "b")
	one, other := []byte("cd"), []byte("e")
	if e := d.Append(one, other); e != api.ErrFull {
		t.Fatalf("Append: %d", e)
	}
	if string(one) != "cd" || string(other) != "e" {
		t.Fatalf("what was handed in was changed: %q, %q", one, other)
	}
	clear(one)
	wantState(t, d, 4, "a", "b")
}

func TestADisksOwnBytesLaidBehindThem(t *testing.T) {
	d := holding(t, 12, "ab", "c")
	for _, want := range []string{"cabc", "cabcabcabc"} {
		bs := d.Bytes()
		if want != "cabc" {
			bs = bs[:6]
		}
		if e := d.Append(bs); e != api.OK {
			t.Fatalf("Append: %d", e)
		}
		wantState(t, d, 12, "ab", want)
	}
}

func TestDisksAreApart(t *testing.T) {
	one, other := made(t, 6), made(t, 6)
	same := []byte("abc")
	for _, d := range []*disk.Disk{one, other} {
		if e := d.Append(same); e != api.OK {
			t.Fatalf("Append: %d", e)
		}
	}
	wantFlush(t, one, 3)
	wantCut(t, one, 1, api.OK)
	wantAppend(t, one, api.OK, "xy")
	wantState(t, one, 6, "a", "xy")
	wantState(t, other, 6, "", "abc")
	wantCrash(t, other, 2, 2)
	wantAppend(t, other, api.OK, "1234")
	wantState(t, other, 6, "ab", "1234")
	wantState(t, one, 6, "a", "xy")
}
