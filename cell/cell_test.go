package cell_test

import (
	"cmp"
	"math"
	"slices"
	"strings"
	"testing"

	"cobweb/api"
	"cobweb/cell"
	"cobweb/samples"
)

const (
	maxRoom = 1 << 20
	lock    = 1 << 63
	absent  = 1 << 62
	most    = absent - 1 // the greatest stamp
)

func made(t testing.TB, room int) *cell.Store {
	t.Helper()
	s, e := cell.New(room)
	if s == nil || e != api.OK {
		t.Fatalf("New(%d): %v, %d", room, s, e)
	}
	return s
}

func key(n int) api.Key {
	return api.Key{Kind: 1, A: n}
}

func keys(ns ...int) []api.Key {
	var ks []api.Key
	for _, n := range ns {
		ks = append(ks, key(n))
	}
	return ks
}

// has is a cell of that stamp and text, none an absent one of that stamp.
func has(stamp uint64, text string) api.Seen {
	return api.Seen{Word: stamp, Val: text, Has: true}
}

func none(stamp uint64) api.Seen {
	return api.Seen{Word: stamp}
}

func wantRead(t testing.TB, s *cell.Store, k api.Key, want api.Seen) {
	t.Helper()
	if v, e := s.Read(k); v != want || e != api.OK {
		t.Fatalf("Read(%v): %v, %d; wanted: %v", k, v, e, want)
	}
}

func wantBusy(t testing.TB, s *cell.Store, k api.Key) {
	t.Helper()
	if v, e := s.Read(k); v != (api.Seen{}) || e != api.ErrBusy {
		t.Fatalf("Read(%v): %v, %d", k, v, e)
	}
}

func wantLook(t testing.TB, s *cell.Store, k api.Key, want api.Seen) {
	t.Helper()
	if v, there := s.Look(k); v != want || !there {
		t.Fatalf("Look(%v): %v, %v; wanted: %v", k, v, there, want)
	}
}

func wantNoCell(t testing.TB, s *cell.Store, ks ...api.Key) {
	t.Helper()
	for _, k := range ks {
		if v, there := s.Look(k); v != (api.Seen{}) || there {
			t.Fatalf("Look(%v): %v, %v", k, v, there)
		}
		if h, there := s.Handle(k); h != (api.Handle{}) || there {
			t.Fatalf("Handle(%v): %v, %v", k, h, there)
		}
		wantRead(t, s, k, api.Seen{})
	}
}

func wantLock(t testing.TB, s *cell.Store, k api.Key, who int, stamp uint64) {
	t.Helper()
	if w, e := s.Lock(k, who); w != stamp || e != api.OK {
		t.Fatalf("Lock(%v, %d): %x, %d; wanted: %x", k, who, w, e, stamp)
	}
}

func wantNoLock(t testing.TB, s *cell.Store, k api.Key, who int, want api.Errno) {
	t.Helper()
	if w, e := s.Lock(k, who); w != 0 || e != want {
		t.Fatalf("Lock(%v, %d): %x, %d; wanted: %d", k, who, w, e, want)
	}
}

func wantUnlock(t testing.TB, s *cell.Store, who int, ks []api.Key, want api.Errno) {
	t.Helper()
	if e := s.Unlock(who, ks...); e != want {
		t.Fatalf("Unlock(%d, %v): %d; wanted: %d", who, ks, e, want)
	}
}

func wantInstall(t testing.TB, s *cell.Store, k api.Key, who int, stamp uint64, v api.Seen, want api.Errno) {
	t.Helper()
	if e := s.Install(k, who, stamp, v); e != want {
		t.Fatalf("Install(%v, %d, %x, %v): %d; wanted: %d", k, who, stamp, v, e, want)
	}
}

// lay locks a cell and installs v in it, at v's Word.
func lay(t testing.TB, s *cell.Store, k api.Key, v api.Seen) {
	t.Helper()
	if _, e := s.Lock(k, 99); e != api.OK {
		t.Fatalf("Lock(%v): %d", k, e)
	}
	wantInstall(t, s, k, 99, v.Word, v, api.OK)
}

func wantHeld(t testing.TB, s *cell.Store, who int, ks ...api.Key) {
	t.Helper()
	if got := s.Held(who); !slices.Equal(got, ks) {
		t.Fatalf("Held(%d): %v; wanted: %v", who, got, ks)
	}
}

func wantKeys(t testing.TB, s *cell.Store, ks ...api.Key) {
	t.Helper()
	if got := s.Keys(); !slices.Equal(got, ks) {
		t.Fatalf("Keys: %v; wanted: %v", got, ks)
	}
}

func wantLen(t testing.TB, s *cell.Store, n int) {
	t.Helper()
	if s.Len() != n {
		t.Fatalf("Len: %d; wanted: %d", s.Len(), n)
	}
}

func wantStill(t testing.TB, s *cell.Store, k api.Key, who int, v api.Seen, want bool) {
	t.Helper()
	if got := s.Still(k, who, v); got != want {
		t.Fatalf("Still(%v, %d, %v): %v", k, who, v, got)
	}
}

func wantFree(t testing.TB, s *cell.Store, ks []api.Key, n int) {
	t.Helper()
	was := s.Len()
	if got := s.Free(ks...); got != n || s.Len() != was-n {
		t.Fatalf("Free(%v): %d, and of %d cells there are %d; wanted: %d", ks, got, was, s.Len(), n)
	}
}

func handle(t testing.TB, s *cell.Store, k api.Key) api.Handle {
	t.Helper()
	h, there := s.Handle(k)
	if !there || !s.Live(h) {
		t.Fatalf("Handle(%v): %v, %v; live: %v", k, h, there, s.Live(h))
	}
	return h
}

// wantRoom: so many more cells may be made, and no more.
func wantRoom(t testing.TB, s *cell.Store, left int) {
	t.Helper()
	var ks []api.Key
	for i := range left {
		ks = append(ks, api.Key{Kind: -7, A: i})
		wantLock(t, s, ks[i], 77, 0)
	}
	wantNoLock(t, s, api.Key{Kind: -7, A: left}, 77, api.ErrFull)
	wantUnlock(t, s, 77, ks, api.OK)
}

// whos are numbers of holders, from end to end.
var whos = []int{0, 1, -1, 7, 63, 1 << 32, -1 << 32, math.MaxInt, math.MinInt}

// P9.1

func TestNew(t *testing.T) {
	for _, room := range []int{0, 1, 2, 1000, maxRoom - 1, maxRoom} {
		s := made(t, room)
		wantLen(t, s, 0)
		wantKeys(t, s)
		wantHeld(t, s, 0)
		wantNoCell(t, s, api.Key{}, key(1))
		if s.Live(api.Handle{}) {
			t.Errorf("room %d: a handle is live, and there is no cell", room)
		}
	}
}

func TestNewOfNoRoom(t *testing.T) {
	for _, room := range []int{-1, -2, -maxRoom, -1 << 32, math.MinInt, maxRoom + 1, maxRoom + 2, 1 << 32, 1<<32 + 1, 1 << 62, math.MaxInt} {
		if s, e := cell.New(room); s != nil || e != api.ErrArg {
			t.Errorf("New(%d): %v, %d", room, s, e)
		}
	}
}

func TestRoom0(t *testing.T) {
	s := made(t, 0)
	for range 2 {
		wantNoLock(t, s, key(1), 7, api.ErrFull)
		wantNoCell(t, s, key(1))
		wantUnlock(t, s, 7, nil, api.OK)
		wantUnlock(t, s, 7, keys(1), api.ErrStale)
		wantInstall(t, s, key(1), 7, 5, has(0, "x"), api.ErrStale)
		wantStill(t, s, key(1), 7, none(0), true)
		wantFree(t, s, keys(1), 0)
		wantLen(t, s, 0)
	}
}

func TestRoom1(t *testing.T) {
	s := made(t, 1)
	wantLock(t, s, key(1), 7, 0)
	wantNoLock(t, s, key(2), 7, api.ErrFull)
	wantInstall(t, s, key(1), 7, 5, has(0, "x"), api.OK)
	wantNoLock(t, s, key(2), 7, api.ErrFull)
	wantNoCell(t, s, key(2))
	wantRead(t, s, key(1), has(5, "x"))
	lay(t, s, key(1), none(6))
	wantNoLock(t, s, key(2), 7, api.ErrFull) // an absent cell has its slot
	wantFree(t, s, keys(1), 1)
	wantLock(t, s, key(2), 7, 0)
	wantNoLock(t, s, key(1), 7, api.ErrFull)
	wantUnlock(t, s, 7, keys(2), api.OK)
	wantLock(t, s, key(1), 7, 0)
}

func TestTheGreatestRoom(t *testing.T) {
	s := made(t, maxRoom)
	for i := range maxRoom {
		if w, e := s.Lock(key(maxRoom-i), 7); w != 0 || e != api.OK {
			t.Fatalf("Lock, the %d.: %x, %d", i, w, e)
		}
	}
	wantNoLock(t, s, key(0), 7, api.ErrFull)
	wantLen(t, s, maxRoom)
	ks := s.Held(7)
	if len(ks) != maxRoom || !slices.IsSortedFunc(ks, plainOrder) || ks[0] != key(1) {
		t.Fatalf("Held: %d of them", len(ks))
	}
	wantUnlock(t, s, 7, ks, api.OK)
	wantLen(t, s, 0)
	wantHeld(t, s, 7)
	wantLock(t, s, key(0), 7, 0)
}

// plainOrder holds keys against each other as the document tells it.
func plainOrder(a, b api.Key) int {
	x, y := []int{a.Kind, a.A, a.B}, []int{b.Kind, b.A, b.B}
	for i := 0; i < len(a.S) && i < len(b.S); i++ {
		x, y = append(x, int(a.S[i])), append(y, int(b.S[i]))
	}
	return slices.Compare(append(x, len(a.S)), append(y, len(b.S)))
}

func TestOrder(t *testing.T) {
	for i, c := range []struct {
		a, b api.Key
		want int
	}{
		{api.Key{}, api.Key{}, 0},
		{api.Key{Kind: 3, A: 4, B: 5, S: "x"}, api.Key{Kind: 3, A: 4, B: 5, S: "x"}, 0},
		{api.Key{Kind: 1, A: 9, B: 9, S: "z"}, api.Key{Kind: 2}, -1},
		{api.Key{A: 1, B: 9, S: "z"}, api.Key{A: 2}, -1},
		{api.Key{B: 1, S: "z"}, api.Key{B: 2}, -1},
		{api.Key{S: "a"}, api.Key{S: "b"}, -1},
		{api.Key{S: ""}, api.Key{S: "\x00"}, -1},
		{api.Key{S: "a"}, api.Key{S: "a\x00"}, -1},
		{api.Key{S: "ab"}, api.Key{S: "b"}, -1},
		{api.Key{S: "B"}, api.Key{S: "a"}, -1},
		{api.Key{S: "z"}, api.Key{S: "é"}, -1},
		{api.Key{S: "é"}, api.Key{S: "\xff"}, -1},
		{api.Key{S: "\ufffd"}, api.Key{S: "\U00010000"}, -1}, // UTF-8's bytes
		{api.Key{S: "10"}, api.Key{S: "9"}, -1},
		{api.Key{A: -1}, api.Key{}, -1},
		{api.Key{Kind: math.MinInt}, api.Key{Kind: math.MaxInt}, -1}, // their difference is no int
		{api.Key{A: math.MinInt}, api.Key{A: 1}, -1},
		{api.Key{B: -2}, api.Key{B: math.MaxInt}, -1},
		{api.Key{A: 1 << 32}, api.Key{A: 1<<32 + 1}, -1},
		{api.Key{B: 1}, api.Key{B: 1 << 32}, -1},
	} {
		if got := cell.Order(c.a, c.b); got != c.want {
			t.Errorf("%d: Order(%v, %v): %d", i, c.a, c.b, got)
		}
		if got := cell.Order(c.b, c.a); got != -c.want {
			t.Errorf("%d: Order(%v, %v): %d", i, c.b, c.a, got)
		}
	}
}

// scattered are keys that differ in one field, or in more.
func scattered() []api.Key {
	var out []api.Key
	for _, kind := range []int{0, -1, 2} {
		for _, a := range []int{0, math.MinInt, math.MaxInt} {
			for _, b := range []int{0, -1, 1} {
				for _, s := range []string{"", "\x00", "a", "ab", "b", "é", "\xff"} {
					out = append(out, api.Key{Kind: kind, A: a, B: b, S: s})
				}
			}
		}
	}
	return out
}

func TestOrderOfEachTwo(t *testing.T) {
	ks := scattered()
	for _, a := range ks {
		for _, b := range ks {
			if got := cell.Order(a, b); got != plainOrder(a, b) {
				t.Fatalf("Order(%v, %v): %d", a, b, got)
			}
		}
	}
}

func TestReadAndLook(t *testing.T) {
	s := made(t, 3)
	wantNoCell(t, s, key(1)) // none
	wantLen(t, s, 0)         // to read a cell makes none

	wantLock(t, s, key(1), 7, 0) // held, and absent, of stamp 0
	wantBusy(t, s, key(1))
	wantLook(t, s, key(1), none(0))

	wantInstall(t, s, key(1), 7, 5, has(0, "x"), api.OK) // a text
	wantRead(t, s, key(1), has(5, "x"))
	wantLook(t, s, key(1), has(5, "x"))

	wantLock(t, s, key(1), 8, 5) // a text, and held
	wantBusy(t, s, key(1))
	wantLook(t, s, key(1), has(5, "x"))

	wantInstall(t, s, key(1), 8, 6, none(0), api.OK) // absent
	wantRead(t, s, key(1), none(6))
	wantLook(t, s, key(1), none(6))

	wantLock(t, s, key(1), 9, 6) // absent, and held
	wantBusy(t, s, key(1))
	wantLook(t, s, key(1), none(6))

	wantInstall(t, s, key(1), 9, 7, has(0, ""), api.OK) // the empty text is one
	wantRead(t, s, key(1), has(7, ""))
	wantLook(t, s, key(1), has(7, ""))
	wantNoCell(t, s, key(2), api.Key{}, api.Key{Kind: 1, B: 1}, api.Key{Kind: 1, A: 1, B: 1}, api.Key{Kind: 1, A: 1, S: "x"}, api.Key{Kind: 2, A: 1})
}

func TestTheDocumentsExample(t *testing.T) {
	s := made(t, 4)
	wantLock(t, s, key(1), 1, 0)
	wantInstall(t, s, key(1), 1, 5, has(0, "x"), api.OK)
	wantRead(t, s, key(1), has(5, "x"))
	v, _ := s.Read(key(1))
	wantLock(t, s, key(1), 1, 5)
	wantNoLock(t, s, key(1), 2, api.ErrBusy)
	wantBusy(t, s, key(1))
	wantStill(t, s, key(1), 1, v, true)
	wantStill(t, s, key(1), 2, v, false)
}

func TestKeysAreToldApartByEachField(t *testing.T) {
	ks := scattered()
	s := made(t, len(ks))
	for i, k := range ks {
		wantNoCell(t, s, k)
		lay(t, s, k, has(uint64(i+1), strings.Repeat("x", i)))
	}
	for i, k := range ks {
		wantRead(t, s, k, has(uint64(i+1), strings.Repeat("x", i)))
	}
	wantLen(t, s, len(ks))
	slices.SortFunc(ks, plainOrder)
	wantKeys(t, s, ks...)
}

// P9.2

func TestLockWhereThereIsNoCell(t *testing.T) {
	for _, who := range whos {
		s := made(t, 2)
		wantLock(t, s, key(1), who, 0)
		wantLook(t, s, key(1), none(0))
		wantHeld(t, s, who, key(1))
		wantLen(t, s, 1)
		wantKeys(t, s)
		wantRoom(t, s, 1)
	}
}

func TestLockOfACellThatIsThere(t *testing.T) {
	for _, v := range []api.Seen{has(5, "x"), has(1, ""), has(most, "x"), has(1<<31+2, "x"), none(5), none(1), none(most)} {
		for _, who := range whos {
			s := made(t, 1)
			lay(t, s, key(1), v)
			h := handle(t, s, key(1))
			wantLock(t, s, key(1), who, v.Word) // in a full store, too
			wantLook(t, s, key(1), v)
			wantHeld(t, s, who, key(1))
			wantLen(t, s, 1)
			if handle(t, s, key(1)) != h {
				t.Errorf("Lock gave the cell another slot")
			}
		}
	}
}

func TestLockOfAHeldCell(t *testing.T) {
	for _, v := range []api.Seen{none(0), none(5), has(5, "x")} {
		for _, who := range whos {
			s := made(t, 1)
			if v.Word > 0 {
				lay(t, s, key(1), v)
			}
			wantLock(t, s, key(1), who, v.Word)
			for _, other := range append(whos, who) { // ahead of ErrFull
				wantNoLock(t, s, key(1), other, api.ErrBusy)
				wantHeld(t, s, who, key(1))
				if other != who {
					wantHeld(t, s, other)
				}
			}
			wantLook(t, s, key(1), v)
			wantUnlock(t, s, who, keys(1), api.OK) // once, however often Lock was called
			wantRead(t, s, key(1), v)
		}
	}
}

func TestLockWithoutRoom(t *testing.T) {
	s := made(t, 3)
	lay(t, s, key(1), has(5, "x"))
	lay(t, s, key(2), none(6))
	wantLock(t, s, key(3), 7, 0) // the last slot that is free
	for range 2 {
		wantNoLock(t, s, key(4), 7, api.ErrFull)
		wantNoCell(t, s, key(4))
		wantHeld(t, s, 7, key(3))
		wantLen(t, s, 3)
	}
	wantLock(t, s, key(1), 7, 5)
	wantLock(t, s, key(2), 7, 6)
	wantNoLock(t, s, key(4), 7, api.ErrFull)
	wantUnlock(t, s, 7, keys(3), api.OK)
	wantLock(t, s, key(4), 8, 0)
	wantNoLock(t, s, key(3), 7, api.ErrFull)
	wantHeld(t, s, 7, keys(1, 2)...)
}

func TestUnlock(t *testing.T) {
	s := made(t, 5)
	lay(t, s, key(1), has(5, "x"))
	lay(t, s, key(2), none(6))
	for _, n := range []int{1, 2, 3, 4} {
		if _, e := s.Lock(key(n), 7); e != api.OK {
			t.Fatal(e)
		}
	}
	wantLock(t, s, key(5), 8, 0)
	wantUnlock(t, s, 7, nil, api.OK)
	wantUnlock(t, s, 7, []api.Key{}, api.OK)
	wantHeld(t, s, 7, keys(1, 2, 3, 4)...)
	h := handle(t, s, key(3))
	wantUnlock(t, s, 7, keys(3, 1, 2), api.OK)
	wantRead(t, s, key(1), has(5, "x"))
	wantRead(t, s, key(2), none(6))
	wantNoCell(t, s, key(3)) // of stamp 0: it is no more
	wantBusy(t, s, key(4))
	wantBusy(t, s, key(5))
	wantHeld(t, s, 7, key(4))
	wantHeld(t, s, 8, key(5))
	wantLen(t, s, 4)
	if s.Live(h) {
		t.Error("a handle is live whose cell is no more")
	}
	wantRoom(t, s, 1) // its slot is free
	wantUnlock(t, s, 7, keys(4), api.OK)
	wantUnlock(t, s, 8, keys(5), api.OK)
	wantRoom(t, s, 3)
	wantKeys(t, s, key(1))
}

func TestUnlockOfACellAtStamp0(t *testing.T) {
	s := made(t, 1)
	for i := range 100 {
		wantLock(t, s, key(i), 7, 0)
		wantNoLock(t, s, key(-1), 7, api.ErrFull)
		wantUnlock(t, s, 7, keys(i), api.OK)
		wantNoCell(t, s, key(i))
		wantLen(t, s, 0)
	}
}

func TestUnlockOfWhatIsntHeld(t *testing.T) {
	state := func() *cell.Store { // 7 holds 1 (a text), 2 (absent), 3 and 4 (new); 0 holds 5; nobody 6 (a text), 8 (absent), 9 (there is none)
		s := made(t, 7)
		lay(t, s, key(1), has(5, "x"))
		lay(t, s, key(2), none(6))
		lay(t, s, key(6), has(5, "y"))
		lay(t, s, key(8), none(5))
		wantLock(t, s, key(1), 7, 5)
		wantLock(t, s, key(2), 7, 6)
		wantLock(t, s, key(3), 7, 0)
		wantLock(t, s, key(4), 7, 0)
		wantLock(t, s, key(5), 0, 0)
		return s
	}
	one := state() // it meets all of them
	for _, c := range []struct {
		who int
		ns  []int
	}{
		{7, []int{5}}, {7, []int{6}}, {7, []int{8}}, {7, []int{9}},
		{7, []int{3, 1, 2, 4, 5}}, {7, []int{5, 3, 1}}, {7, []int{3, 6, 4}}, {7, []int{1, 8}}, {7, []int{4, 3, 9}}, {7, []int{9, 9}},
		{7, []int{1, 1}}, {7, []int{3, 3}}, {7, []int{3, 1, 3}}, {7, []int{1, 3, 2, 1}}, {7, []int{2, 4, 3, 3}}, {7, []int{3, 4, 3, 4}},
		{0, []int{6}}, {0, []int{8}}, {0, []int{9}}, {0, []int{1}}, {0, []int{3}}, {0, []int{5, 6}}, {0, []int{5, 5}}, {0, []int{5, 3}}, // 0 is one as any other
		{99, []int{1}}, {99, []int{6}}, {99, []int{8}}, // who held it last holds it no more
		{8, []int{1}}, {-7, []int{1}}, {8, []int{1, 3}},
		{7 + 1<<32, []int{1}}, {7 + 1<<32, []int{3}}, {1 << 32, []int{5}},
	} {
		for _, s := range []*cell.Store{one, state()} {
			wantUnlock(t, s, c.who, keys(c.ns...), api.ErrStale)
			wantHeld(t, s, 7, keys(1, 2, 3, 4)...)
			wantHeld(t, s, 0, key(5))
			wantLook(t, s, key(1), has(5, "x"))
			wantLook(t, s, key(2), none(6))
			wantLook(t, s, key(3), none(0))
			wantRead(t, s, key(6), has(5, "y"))
			wantRead(t, s, key(8), none(5))
			wantNoCell(t, s, key(9))
			wantLen(t, s, 7)
			wantKeys(t, s, keys(1, 6)...)
		}
	}
	wantUnlock(t, one, 7, keys(1, 2, 3, 4), api.OK)
	wantRoom(t, one, 2)
}

func TestAnUnlockThatFailsLeavesHandles(t *testing.T) {
	s, twin := made(t, 4), made(t, 4)
	for _, x := range []*cell.Store{s, twin} {
		for _, k := range keys(1, 2, 3) {
			wantLock(t, x, k, 7, 0)
		}
		wantUnlock(t, x, 7, keys(2), api.OK)
	}
	a, b := handle(t, s, key(1)), handle(t, s, key(3))
	wantUnlock(t, s, 7, keys(3, 1, 2), api.ErrStale)
	wantUnlock(t, s, 7, keys(1, 3, 1), api.ErrStale)
	if handle(t, s, key(1)) != a || handle(t, s, key(3)) != b {
		t.Error("a cell has another handle")
	}
	for n := 4; n < 6; n++ { // and what is free comes as it would have come
		wantLock(t, s, key(n), 7, 0)
		wantLock(t, twin, key(n), 7, 0)
		if handle(t, s, key(n)) != handle(t, twin, key(n)) {
			t.Errorf("the handle of %v: %v; wanted: %v", key(n), handle(t, s, key(n)), handle(t, twin, key(n)))
		}
	}
}

// P9.3

func TestInstall(t *testing.T) {
	news := []api.Seen{none(0), has(0, ""), has(0, "x"), has(0, "\x00"), has(0, "\xff"), has(0, strings.Repeat("long", 1000))}
	for _, was := range []api.Seen{none(0), none(4), has(4, ""), has(4, "was")} {
		for _, v := range news {
			for _, stamp := range []uint64{5, 6, 1<<30 - 1, 1 << 30, 1<<31 - 1, 1 << 31, 1<<31 + 2, most - 1, most} {
				for _, v.Word = range []uint64{0, 5, 99, lock, absent, math.MaxUint64} { // which counts for nothing
					s := made(t, 1)
					if was.Word > 0 {
						lay(t, s, key(1), was)
					}
					wantLock(t, s, key(1), 7, was.Word)
					h := handle(t, s, key(1))
					wantInstall(t, s, key(1), 7, stamp, v, api.OK)
					want := api.Seen{Word: stamp, Val: v.Val, Has: v.Has}
					wantRead(t, s, key(1), want)
					wantLook(t, s, key(1), want)
					wantHeld(t, s, 7)
					wantLen(t, s, 1)
					if handle(t, s, key(1)) != h {
						t.Error("Install gave the cell another slot")
					}
				}
			}
		}
	}
}

func TestInstallOfTheLeastStampAbove(t *testing.T) {
	s := made(t, 1)
	for stamp := uint64(1); stamp < 100; stamp++ {
		wantLock(t, s, key(1), 7, stamp-1)
		for _, low := range []uint64{0, stamp / 2, stamp - 1} {
			wantInstall(t, s, key(1), 7, low, has(0, "x"), api.ErrArg)
			wantInstall(t, s, key(1), 7, low, none(0), api.ErrArg)
		}
		v := api.Seen{Has: stamp%2 == 0}
		wantInstall(t, s, key(1), 7, stamp, v, api.OK)
		v.Word = stamp
		wantRead(t, s, key(1), v)
	}
	wantLock(t, s, key(1), 7, 99)
	wantInstall(t, s, key(1), 7, most, has(0, "x"), api.OK)
	wantLock(t, s, key(1), 7, most)
	for _, w := range []uint64{most, absent, lock, absent + most, math.MaxUint64} { // there is none above it
		wantInstall(t, s, key(1), 7, w, has(0, "y"), api.ErrArg)
	}
	wantLook(t, s, key(1), has(most, "x"))
}

func TestInstallByOneWhoDoesntHoldIt(t *testing.T) {
	for _, v := range []api.Seen{has(0, "new"), none(0), {Val: "a text, and not Has"}} {
		for _, stamp := range []uint64{6, 0, 5, lock + 6, absent + 6} { // ahead of ErrArg
			s := made(t, 4)
			lay(t, s, key(1), has(5, "x"))
			lay(t, s, key(2), none(5))
			lay(t, s, key(3), has(5, "z"))
			wantLock(t, s, key(3), 7, 5)
			for _, who := range []int{0, 8, 99, -7, 7 + 1<<32} {
				for _, k := range keys(1, 2, 3, 4) { // held by nobody, held by nobody, held by another one, none
					wantInstall(t, s, k, who, stamp, v, api.ErrStale)
				}
			}
			wantRead(t, s, key(1), has(5, "x"))
			wantRead(t, s, key(2), none(5))
			wantLook(t, s, key(3), has(5, "z"))
			wantNoCell(t, s, key(4))
			wantLen(t, s, 3)
			wantHeld(t, s, 7, key(3))
		}
	}
}

func TestInstallTwice(t *testing.T) {
	s := made(t, 1)
	wantLock(t, s, key(1), 7, 0)
	wantInstall(t, s, key(1), 7, 5, has(0, "x"), api.OK)
	wantInstall(t, s, key(1), 7, 6, has(0, "y"), api.ErrStale) // it is held no more
	wantUnlock(t, s, 7, keys(1), api.ErrStale)
	wantRead(t, s, key(1), has(5, "x"))
}

func TestInstallOfWrongStampsAndTexts(t *testing.T) {
	for _, was := range []api.Seen{none(0), none(1<<31 + 2), has(1<<31+2, "was")} {
		s := made(t, 1)
		if was.Word > 0 {
			lay(t, s, key(1), was)
		}
		wantLock(t, s, key(1), 7, was.Word)
		for _, c := range []struct {
			stamp uint64
			v     api.Seen
		}{
			{was.Word, has(0, "x")}, {was.Word, none(0)}, {0, has(0, "x")}, {0, none(0)},
			{was.Word / 2, has(0, "x")}, {was.Word / 2, has(was.Word+1, "x")}, // v's Word is no stamp
			{lock + was.Word + 1, has(0, "x")}, {absent + was.Word + 1, has(0, "x")}, {lock + absent + was.Word + 1, has(0, "x")},
			{lock + was.Word + 1, none(0)}, {absent + was.Word + 1, none(0)}, {lock + absent + was.Word + 1, none(0)},
			{lock, none(0)}, {absent, none(0)}, {lock + absent, none(0)}, {math.MaxUint64, none(0)}, {lock - 1, has(0, "x")},
			{was.Word + 1, api.Seen{Val: "x"}}, {was.Word + 1, api.Seen{Val: "\x00"}}, {most, api.Seen{Word: most, Val: "x"}},
		} {
			wantInstall(t, s, key(1), 7, c.stamp, c.v, api.ErrArg)
			wantLook(t, s, key(1), was)
			wantBusy(t, s, key(1))
			wantHeld(t, s, 7, key(1))
		}
		wantInstall(t, s, key(1), 7, was.Word+1, has(0, "x"), api.OK) // as if it were the first
		wantRead(t, s, key(1), has(was.Word+1, "x"))
	}
}

func TestInstallOfNone(t *testing.T) {
	s := made(t, 2)
	lay(t, s, key(1), has(5, "x"))
	lay(t, s, key(1), none(6))
	wantRead(t, s, key(1), none(6)) // its text is empty
	wantLen(t, s, 1)
	wantKeys(t, s)
	wantLock(t, s, key(1), 7, 6) // it is held, and let go, and there
	wantUnlock(t, s, 7, keys(1), api.OK)
	wantRead(t, s, key(1), none(6))
	lay(t, s, key(1), none(8))
	wantRead(t, s, key(1), none(8))
	lay(t, s, key(1), has(9, ""))
	wantRead(t, s, key(1), has(9, ""))
	wantKeys(t, s, key(1))
	wantLock(t, s, key(2), 7, 0) // where there was none
	wantInstall(t, s, key(2), 7, 1, none(0), api.OK)
	wantLook(t, s, key(2), none(1))
	wantLen(t, s, 2)
}

// P9.4

func TestStillWhereThereIsNoCell(t *testing.T) {
	s := made(t, 1)
	for _, who := range whos {
		for _, w := range []uint64{0, 1, 4, most, absent, absent + 4, lock, math.MaxUint64} {
			wantStill(t, s, key(1), who, none(w), true)
			wantStill(t, s, key(1), who, has(w, ""), false)
			wantStill(t, s, key(1), who, has(w, "x"), false)
		}
	}
	wantLen(t, s, 0)
}

func TestStill(t *testing.T) {
	for _, v := range []api.Seen{has(5, "x"), has(5, ""), has(most, "x"), none(5), none(1), none(most)} {
		s := made(t, 1)
		lay(t, s, key(1), v)
		for _, hold := range []bool{false, true} {
			if hold {
				wantLock(t, s, key(1), 7, v.Word)
			}
			for _, who := range whos {
				mine := !hold || who == 7
				wantStill(t, s, key(1), who, v, mine)
				other := v
				other.Val = "another text" // its stamp alone counts
				wantStill(t, s, key(1), who, other, mine)
				other = v
				other.Has = !v.Has
				wantStill(t, s, key(1), who, other, false)
				for _, w := range []uint64{0, v.Word - 1, v.Word + 1, v.Word + lock, v.Word + absent, v.Word + lock + absent, math.MaxUint64} {
					wantStill(t, s, key(1), who, api.Seen{Word: w, Val: v.Val, Has: true}, false)
					wantStill(t, s, key(1), who, none(w), false)
				}
			}
			if hold {
				wantHeld(t, s, 7, key(1))
			} else {
				wantRead(t, s, key(1), v)
			}
		}
	}
}

func TestStillOfStamp0(t *testing.T) {
	s := made(t, 1)
	wantLock(t, s, key(1), 7, 0)
	for _, w := range []uint64{0, 1, 4, most, absent + 4, math.MaxUint64} {
		wantStill(t, s, key(1), 7, none(w), true)
		wantStill(t, s, key(1), 7, has(w, ""), false)
		for _, who := range []int{0, 8, -7, 7 + 1<<32} {
			wantStill(t, s, key(1), who, none(w), false)
			wantStill(t, s, key(1), who, has(w, ""), false)
		}
	}
}

func TestStillBehindWhatHappens(t *testing.T) {
	s := made(t, 2)
	nothing, _ := s.Read(key(1))
	lay(t, s, key(1), has(5, "x"))
	wantStill(t, s, key(1), 7, nothing, false)
	text, _ := s.Read(key(1))
	lay(t, s, key(1), has(6, "x")) // the same text, written again
	wantStill(t, s, key(1), 7, text, false)
	lay(t, s, key(1), none(7))
	gone, _ := s.Read(key(1))
	wantStill(t, s, key(1), 7, nothing, false)
	wantStill(t, s, key(1), 7, gone, true)
	lay(t, s, key(1), none(8)) // nothing, written again
	wantStill(t, s, key(1), 7, gone, false)
	wantFree(t, s, keys(1), 1)
	wantStill(t, s, key(1), 7, gone, true)
	wantStill(t, s, key(1), 7, nothing, true)
	wantStill(t, s, key(1), 7, text, false)
}

func TestFree(t *testing.T) {
	state := func() *cell.Store {
		s := made(t, 8)
		lay(t, s, key(1), none(5))
		lay(t, s, key(2), none(6))
		lay(t, s, key(3), none(7))
		lay(t, s, key(4), has(5, "x"))
		lay(t, s, key(5), has(5, ""))
		lay(t, s, key(6), none(5)) // absent, and held
		wantLock(t, s, key(6), 0, 5)
		lay(t, s, key(7), has(5, "x")) // held
		wantLock(t, s, key(7), 7, 5)
		wantLock(t, s, key(8), 7, 0) // new, and held
		return s
	}
	for _, c := range []struct {
		ns, gone []int
	}{
		{nil, nil}, {[]int{1}, []int{1}}, {[]int{1, 2}, []int{1, 2}}, {[]int{3, 1, 2}, []int{1, 2, 3}},
		{[]int{4}, nil}, {[]int{5}, nil}, {[]int{6}, nil}, {[]int{7}, nil}, {[]int{8}, nil}, {[]int{9}, nil}, {[]int{0}, nil},
		{[]int{9, 1, 4}, []int{1}}, {[]int{8, 7, 6, 5, 4, 3, 2, 1}, []int{1, 2, 3}}, {[]int{4, 5, 6, 7, 8, 9}, nil},
		{[]int{1, 1}, []int{1}}, {[]int{2, 1, 2, 1, 2}, []int{1, 2}}, {[]int{6, 6}, nil}, {[]int{9, 9}, nil},
	} {
		s := state()
		hs := map[int]api.Handle{}
		for n := 1; n <= 8; n++ {
			hs[n] = handle(t, s, key(n))
		}
		wantFree(t, s, keys(c.ns...), len(c.gone))
		for n := 1; n <= 8; n++ {
			if s.Live(hs[n]) == slices.Contains(c.gone, n) {
				t.Errorf("Free(%v): is cell %d's handle live? %v", c.ns, n, s.Live(hs[n]))
			}
		}
		wantNoCell(t, s, keys(c.gone...)...)
		wantRead(t, s, key(4), has(5, "x"))
		wantRead(t, s, key(5), has(5, ""))
		wantHeld(t, s, 0, key(6))
		wantHeld(t, s, 7, keys(7, 8)...)
		wantKeys(t, s, keys(4, 5, 7)...)
		wantRoom(t, s, len(c.gone))
		wantFree(t, s, keys(c.ns...), 0)
		wantFree(t, s, keys(1, 2, 3), 3-len(c.gone))
	}
}

func TestAFreedCellBeginsAgain(t *testing.T) {
	s := made(t, 1)
	lay(t, s, key(1), has(5, "x"))
	lay(t, s, key(1), none(6))
	h := handle(t, s, key(1))
	wantFree(t, s, keys(1), 1)
	wantNoCell(t, s, key(1))
	wantLock(t, s, key(1), 7, 0) // of stamp 0
	if g := handle(t, s, key(1)); g != (api.Handle{Slot: h.Slot, Gen: h.Gen + 1}) || s.Live(h) {
		t.Errorf("the handle was %v, and is %v; the first one is live: %v", h, g, s.Live(h))
	}
	wantInstall(t, s, key(1), 7, 1, has(0, "y"), api.OK)
	wantRead(t, s, key(1), has(1, "y"))
}

// P9.5

func TestHandle(t *testing.T) {
	s := made(t, 3)
	wantNoCell(t, s, key(1))
	wantLock(t, s, key(1), 7, 0)
	if h := handle(t, s, key(1)); h != (api.Handle{}) { // the first slot, in its first generation
		t.Errorf("Handle: %v", h)
	}
	wantLock(t, s, key(2), 7, 0)
	if h := handle(t, s, key(2)); h != (api.Handle{Slot: 1}) {
		t.Errorf("Handle: %v", h)
	}
	for stamp := uint64(1); stamp < 4; stamp++ { // it stays the cell's whatever is done to it
		wantInstall(t, s, key(1), 7, stamp, api.Seen{Has: stamp%2 == 1}, api.OK)
		wantLock(t, s, key(1), 7, stamp)
		if h := handle(t, s, key(1)); h != (api.Handle{}) {
			t.Errorf("Handle: %v", h)
		}
	}
	wantUnlock(t, s, 7, keys(2), api.OK)
	wantLock(t, s, key(3), 7, 0) // the slot that was freed comes ahead of a fresh one
	if h := handle(t, s, key(3)); h != (api.Handle{Slot: 1, Gen: 1}) {
		t.Errorf("Handle: %v", h)
	}
}

func TestLive(t *testing.T) {
	s := made(t, 2)
	var ended []api.Handle
	for i := range 50 {
		wantLock(t, s, key(i), 7, 0)
		h := handle(t, s, key(i))
		if i%2 == 0 { // its end is an Unlock, or a Free
			wantUnlock(t, s, 7, keys(i), api.OK)
		} else {
			wantInstall(t, s, key(i), 7, 5, none(0), api.OK)
			if !s.Live(h) {
				t.Fatalf("%v isn't live, and its cell is there, absent", h)
			}
			wantFree(t, s, keys(i), 1)
		}
		ended = append(ended, h)
		for _, g := range ended {
			if s.Live(g) {
				t.Fatalf("%v is live, and its cell is no more", g)
			}
		}
	}
	lay(t, s, key(1), has(5, "x"))
	h := handle(t, s, key(1))
	for _, g := range []api.Handle{
		{Slot: h.Slot, Gen: h.Gen + 1}, {Slot: h.Slot, Gen: h.Gen - 1}, {Slot: h.Slot + 1, Gen: h.Gen}, {Slot: h.Slot + 1}, {Slot: -1, Gen: h.Gen},
		{Slot: 2}, {Slot: math.MaxInt}, {Slot: math.MinInt, Gen: math.MinInt}, {Slot: h.Slot + 1<<32, Gen: h.Gen}, {Slot: h.Slot, Gen: h.Gen + 1<<32},
	} {
		if s.Live(g) {
			t.Errorf("%v is live, and the one cell's is %v", g, h)
		}
	}
}

func TestHeldAndKeysAreInOrder(t *testing.T) {
	ks := scattered()
	roll := samples.Dice(9)
	for range 5 {
		for i := range ks {
			j := roll(i + 1)
			ks[i], ks[j] = ks[j], ks[i]
		}
		s := made(t, len(ks))
		held, present := map[int][]api.Key{}, []api.Key(nil)
		for i, k := range ks { // new, of a text, absent; held by one of three, or, if it isn't new, by nobody
			stamp, who := uint64(0), i%4
			if i%3 > 0 {
				stamp = 5
				lay(t, s, k, api.Seen{Word: stamp, Has: i%3 == 1})
			}
			if i%3 == 1 {
				present = append(present, k)
			}
			if who < 3 || stamp == 0 {
				wantLock(t, s, k, who, stamp)
				held[who] = append(held[who], k)
			}
		}
		slices.SortFunc(present, plainOrder)
		wantKeys(t, s, present...)
		for who := -1; who < 5; who++ {
			slices.SortFunc(held[who], plainOrder)
			wantHeld(t, s, who, held[who]...)
		}
	}
}

func TestHeld(t *testing.T) {
	s := made(t, 3)
	wantHeld(t, s, 7)
	lay(t, s, key(1), has(5, "x"))
	lay(t, s, key(2), none(5))
	for _, who := range append(whos, 99) { // nobody holds one, 0 and who held it last neither
		wantHeld(t, s, who)
	}
	wantLock(t, s, key(2), 7, 5)
	wantLock(t, s, key(1), 8, 5)
	wantLock(t, s, key(3), 7, 0)
	wantHeld(t, s, 7, keys(2, 3)...)
	wantHeld(t, s, 8, key(1))
	wantHeld(t, s, 0)
	wantUnlock(t, s, 7, keys(2), api.OK)
	wantLock(t, s, key(2), 8, 5)
	wantHeld(t, s, 7, key(3))
	wantHeld(t, s, 8, keys(1, 2)...)
	wantUnlock(t, s, 7, keys(2), api.ErrStale) // it is another one's now
	wantInstall(t, s, key(2), 7, 6, none(0), api.ErrStale)
	wantInstall(t, s, key(2), 8, 6, none(0), api.OK)
	wantHeld(t, s, 8, key(1))
}

func TestKeysAndLen(t *testing.T) {
	s := made(t, 4)
	lay(t, s, key(2), has(5, "x"))
	lay(t, s, key(1), none(5))
	wantKeys(t, s, key(2))
	wantLen(t, s, 2) // absent ones, too
	wantLock(t, s, key(3), 7, 0)
	wantLock(t, s, key(2), 7, 5) // held, and there
	wantKeys(t, s, key(2))
	wantLen(t, s, 3)
	wantLock(t, s, key(1), 7, 5)
	wantInstall(t, s, key(1), 7, 6, has(0, ""), api.OK)
	wantKeys(t, s, keys(1, 2)...)
	wantUnlock(t, s, 7, keys(3), api.OK)
	wantLen(t, s, 2)
	lay(t, s, key(4), has(1, "z"))
	wantInstall(t, s, key(2), 7, 7, none(0), api.OK)
	wantKeys(t, s, keys(1, 4)...)
	wantLen(t, s, 3)
	wantFree(t, s, keys(1, 2, 3, 4), 1)
	wantKeys(t, s, keys(1, 4)...)
	wantLen(t, s, 2)
}

func TestHeldAndKeysAnswerNewMemory(t *testing.T) {
	s := made(t, 4)
	for n := 1; n <= 3; n++ {
		lay(t, s, key(n), has(5, "x"))
		wantLock(t, s, key(n), 7, 5)
	}
	for _, ask := range []func() []api.Key{func() []api.Key { return s.Held(7) }, s.Keys} {
		one, other := ask(), ask()
		_ = append(one[:1], key(8))
		clear(one[:cap(one)])
		if !slices.Equal(other, keys(1, 2, 3)) {
			t.Errorf("one answer was written into, and another one is %v", other)
		}
		if again := ask(); !slices.Equal(again, keys(1, 2, 3)) {
			t.Errorf("an answer was written into, and the store tells %v", again)
		}
	}
	wantUnlock(t, s, 7, keys(1, 2, 3), api.OK)
	wantRead(t, s, key(1), has(5, "x"))
}

func TestUnlockAndFreeNeitherChangeNorKeepWhatIsHandedIn(t *testing.T) {
	s := made(t, 4)
	lay(t, s, key(1), none(5))
	lay(t, s, key(2), none(5))
	wantLock(t, s, key(1), 7, 5)
	wantLock(t, s, key(2), 7, 5)
	spare := keys(2, 1, 8, 9)
	for _, call := range []func(ks []api.Key){
		func(ks []api.Key) { wantUnlock(t, s, 7, append(ks, key(8)), api.ErrStale) },
		func(ks []api.Key) { wantUnlock(t, s, 7, ks, api.OK) },
		func(ks []api.Key) { wantFree(t, s, ks, 2) },
	} {
		call(spare[:2])
		if want := keys(2, 1, 8, 9); !slices.Equal(spare, want) {
			t.Fatalf("an argument became %v", spare)
		}
	}
	clear(spare)
	wantNoCell(t, s, keys(1, 2)...)
	wantRoom(t, s, 4)
}

func TestStoresAreApart(t *testing.T) {
	a, b := made(t, 2), made(t, 2)
	lay(t, a, key(1), has(5, "x"))
	wantLock(t, a, key(2), 7, 0)
	wantNoCell(t, b, keys(1, 2)...)
	wantHeld(t, b, 7)
	wantKeys(t, b)
	wantUnlock(t, b, 7, keys(2), api.ErrStale)
	wantInstall(t, b, key(2), 7, 5, none(0), api.ErrStale)
	if b.Live(handle(t, a, key(1))) {
		t.Error("a handle of one store's is live in the other one, which is empty")
	}
	wantRoom(t, b, 2)
	lay(t, b, key(1), has(9, "y"))
	wantLock(t, b, key(1), 7, 9)
	wantRead(t, a, key(1), has(5, "x"))
	wantHeld(t, a, 7, key(2))
	wantUnlock(t, b, 7, keys(1), api.OK)
	wantLook(t, a, key(2), none(0))
	wantLen(t, a, 2)
	wantLen(t, b, 1)
}

// record is a cell as the document's words tell it.
type record struct {
	stamp      uint64
	has, held  bool
	text       string
	who, place int
	life       int
}

// model is a store as the document's words tell it: free are the slots that may be taken, the next one first, and lives how often each was freed.
type model struct {
	cells map[api.Key]record
	free  []int
	lives []int
}

func (m *model) seen(k api.Key) api.Seen {
	r := m.cells[k]
	return api.Seen{Word: r.stamp, Val: r.text, Has: r.has}
}

func (m *model) lock(k api.Key, who int) (uint64, api.Errno) {
	r, there := m.cells[k]
	if r.held {
		return 0, api.ErrBusy
	}
	if !there {
		if len(m.free) == 0 {
			return 0, api.ErrFull
		}
		r.place, r.life = m.free[0], m.lives[m.free[0]]
		m.free = m.free[1:]
	}
	r.held, r.who = true, who
	m.cells[k] = r
	return r.stamp, api.OK
}

func (m *model) drop(k api.Key) {
	r := m.cells[k]
	delete(m.cells, k)
	m.lives[r.place]++
	m.free = append([]int{r.place}, m.free...)
}

func (m *model) unlock(who int, ks []api.Key) api.Errno {
	for i, k := range ks {
		if r := m.cells[k]; !r.held || r.who != who || slices.Contains(ks[:i], k) {
			return api.ErrStale
		}
	}
	for _, k := range ks {
		r := m.cells[k]
		r.held = false
		m.cells[k] = r
		if r.stamp == 0 {
			m.drop(k)
		}
	}
	return api.OK
}

func (m *model) install(k api.Key, who int, stamp uint64, v api.Seen) api.Errno {
	r := m.cells[k]
	if !r.held || r.who != who {
		return api.ErrStale
	}
	if stamp <= r.stamp || stamp >= absent || v.Val != "" && !v.Has {
		return api.ErrArg
	}
	r.stamp, r.has, r.text, r.held = stamp, v.Has, v.Val, false
	m.cells[k] = r
	return api.OK
}

func (m *model) still(k api.Key, who int, v api.Seen) bool {
	r := m.cells[k]
	if r.held && r.who != who {
		return false
	}
	if v.Has {
		return r.has && r.stamp == v.Word
	}
	return !r.has && (r.stamp == v.Word || r.stamp == 0)
}

func (m *model) frees(ks []api.Key) int {
	n := 0
	for _, k := range ks {
		if r, there := m.cells[k]; there && !r.has && !r.held {
			m.drop(k)
			n++
		}
	}
	return n
}

func (m *model) keysOf(is func(r record) bool) []api.Key {
	var ks []api.Key
	for k, r := range m.cells {
		if is(r) {
			ks = append(ks, k)
		}
	}
	slices.SortFunc(ks, plainOrder)
	return ks
}

// both are a store and what it ought to be, with the keys that are tried, and the handles that were met.
type both struct {
	s    *cell.Store
	m    *model
	room int
	ks   []api.Key
	met  map[api.Handle]bool
}

func bothOf(t testing.TB, room int, ks ...api.Key) *both {
	b := &both{s: made(t, room), m: &model{cells: map[api.Key]record{}, lives: make([]int, room)}, room: room, ks: ks, met: map[api.Handle]bool{}}
	for i := range room {
		b.m.free = append(b.m.free, i)
	}
	return b
}

func (b *both) lock(t testing.TB, k api.Key, who int) {
	t.Helper()
	want, wantE := b.m.lock(k, who)
	if w, e := b.s.Lock(k, who); w != want || e != wantE {
		t.Fatalf("Lock(%v, %d): %x, %d; wanted: %x, %d", k, who, w, e, want, wantE)
	}
}

func (b *both) unlock(t testing.TB, who int, ks ...api.Key) {
	t.Helper()
	wantUnlock(t, b.s, who, ks, b.m.unlock(who, ks))
}

func (b *both) install(t testing.TB, k api.Key, who int, stamp uint64, v api.Seen) {
	t.Helper()
	wantInstall(t, b.s, k, who, stamp, v, b.m.install(k, who, stamp, v))
}

func (b *both) free(t testing.TB, ks ...api.Key) {
	t.Helper()
	wantFree(t, b.s, ks, b.m.frees(ks))
}

// check: all that a store tells is what it ought to be.
func (b *both) check(t testing.TB) {
	t.Helper()
	live := map[api.Handle]bool{}
	for _, k := range b.ks {
		b.checkCell(t, k)
		if r, there := b.m.cells[k]; there {
			h := api.Handle{Slot: r.place, Gen: r.life}
			live[h], b.met[h] = true, true
			if handle(t, b.s, k) != h {
				t.Fatalf("Handle(%v): %v; wanted: %v", k, handle(t, b.s, k), h)
			}
		}
	}
	for h := range b.met {
		if b.s.Live(h) != live[h] {
			t.Fatalf("Live(%v): %v", h, b.s.Live(h))
		}
	}
	for who := range 4 {
		wantHeld(t, b.s, who, b.m.keysOf(func(r record) bool { return r.held && r.who == who })...)
	}
	wantKeys(t, b.s, b.m.keysOf(func(r record) bool { return r.has })...)
	wantLen(t, b.s, len(b.m.cells))
	if b.s.Len() > b.room {
		t.Fatalf("Len: %d, and the room is %d", b.s.Len(), b.room)
	}
}

func (b *both) checkCell(t testing.TB, k api.Key) {
	t.Helper()
	r, there := b.m.cells[k]
	if r.held {
		wantBusy(t, b.s, k)
	} else {
		wantRead(t, b.s, k, b.m.seen(k))
	}
	if there {
		wantLook(t, b.s, k, b.m.seen(k))
	} else if v, is := b.s.Look(k); is || v != (api.Seen{}) {
		t.Fatalf("Look(%v): %v, %v", k, v, is)
	}
	for who := range 4 {
		for _, w := range []uint64{0, r.stamp, r.stamp + 1, r.stamp - 1, 5} {
			for _, v := range []api.Seen{none(w), has(w, r.text)} {
				if got := b.s.Still(k, who, v); got != b.m.still(k, who, v) { // not by wantStill: they are many
					t.Fatalf("Still(%v, %d, %v): %v", k, who, v, got)
				}
			}
		}
	}
}

func TestAllShortScripts(t *testing.T) {
	k, l := key(1), key(2)
	steps := []func(b *both, now uint64){
		func(b *both, now uint64) { b.lock(t, k, 0) },
		func(b *both, now uint64) { b.lock(t, l, 1) },
		func(b *both, now uint64) { b.lock(t, l, 0) },
		func(b *both, now uint64) { b.unlock(t, 0, k) },
		func(b *both, now uint64) { b.unlock(t, 0, l, k) },
		func(b *both, now uint64) { b.install(t, k, 0, now, has(0, "x")) },
		func(b *both, now uint64) { b.install(t, k, 0, now, none(0)) },
		func(b *both, now uint64) { b.install(t, l, 1, now, none(9)) },
		func(b *both, now uint64) { b.free(t, k, l) },
	}
	for room := range 3 {
		for length, count := 0, 1; length <= 5; length, count = length+1, count*len(steps) {
			for script := range count {
				b := bothOf(t, room, k, l)
				for now := range length {
					steps[script%len(steps)](b, uint64(now+1))
					script /= len(steps)
				}
				b.check(t)
			}
		}
	}
}

func TestLongScripts(t *testing.T) {
	for seed := range uint64(40) {
		roll := samples.Dice(seed)
		ks := scattered()[roll(50):][:4+roll(12)]
		b := bothOf(t, roll(12), ks...)
		some := func() []api.Key {
			var out []api.Key
			for range roll(4) {
				out = append(out, ks[roll(len(ks))])
			}
			return out
		}
		for range 400 {
			k, who := ks[roll(len(ks))], roll(3)
			was := map[api.Key]record{}
			for k, r := range b.m.cells {
				was[k] = r
			}
			switch roll(9) {
			case 0, 1, 2:
				b.lock(t, k, who)
			case 3:
				b.unlock(t, who, some()...)
			case 4:
				held := b.s.Held(who)
				b.unlock(t, who, held[min(roll(3), len(held)):]...)
			case 5, 6, 7:
				stamp := max(b.m.cells[k].stamp+uint64(roll(4)), 1) - uint64(roll(2))
				b.install(t, k, cmp.Or(b.m.cells[k].who, who), stamp, api.Seen{Word: uint64(roll(9)), Val: []string{"", "", "x", "y"}[roll(4)], Has: roll(2) == 0})
			case 8:
				b.free(t, some()...)
			}
			b.check(t)
			wantNoStampFell(t, b.s, was)
		}
	}
}

// wantNoStampFell: a cell's stamp never falls, as long as it is there.
func wantNoStampFell(t testing.TB, s *cell.Store, was map[api.Key]record) {
	t.Helper()
	for k, r := range was {
		h, _ := s.Handle(k)
		if v, there := s.Look(k); there && h == (api.Handle{Slot: r.place, Gen: r.life}) && v.Word < r.stamp {
			t.Fatalf("the stamp of %v was %x, and is %x", k, r.stamp, v.Word)
		}
	}
}
