package arena_test

import (
	"math"
	"slices"
	"testing"

	"cobweb/api"
	"cobweb/arena"
	"cobweb/samples"
)

const maxRoom = 1 << 20

func made(t testing.TB, room int) *arena.Arena {
	t.Helper()
	a, e := arena.New(room)
	if a == nil || e != api.OK {
		t.Fatalf("New(%d): %v, %d", room, a, e)
	}
	return a
}

func at(slot, gen int) api.Handle {
	return api.Handle{Slot: slot, Gen: gen}
}

// wantTakes takes one behind the other, and at last finds none.
func wantTakes(t *testing.T, a *arena.Arena, want ...api.Handle) {
	t.Helper()
	for i, w := range want {
		if h, e := a.Take(); h != w || e != api.OK {
			t.Fatalf("Take, the %d. of %v: %v, %d", i, want, h, e)
		}
	}
	wantFull(t, a)
}

func wantFull(t *testing.T, a *arena.Arena) {
	t.Helper()
	for range 2 {
		if h, e := a.Take(); h != (api.Handle{}) || e != api.ErrFull {
			t.Fatalf("Take of a full one: %v, %d", h, e)
		}
	}
	if a.Len() != a.Room() {
		t.Fatalf("full, and %d of %d are taken", a.Len(), a.Room())
	}
}

func wantMany(t *testing.T, a *arena.Arena, n int, want ...api.Handle) []api.Handle {
	t.Helper()
	hs, e := a.Many(n)
	if !slices.Equal(hs, want) || e != api.OK {
		t.Fatalf("Many(%d): %v, %d; wanted: %v", n, hs, e, want)
	}
	return hs
}

func wantNoMany(t *testing.T, a *arena.Arena, n int, want api.Errno) {
	t.Helper()
	was := a.Len()
	if hs, e := a.Many(n); len(hs) != 0 || e != want {
		t.Fatalf("Many(%d): %v, %d; wanted: %d", n, hs, e, want)
	}
	if a.Len() != was {
		t.Fatalf("Many(%d) took some: %d, then %d", n, was, a.Len())
	}
}

func wantFree(t *testing.T, a *arena.Arena, hs ...api.Handle) {
	t.Helper()
	was := a.Len()
	if e := a.Free(hs...); e != api.OK {
		t.Fatalf("Free(%v): %d", hs, e)
	}
	if a.Len() != was-len(hs) {
		t.Fatalf("Free(%v): %d were taken, then %d", hs, was, a.Len())
	}
}

func wantStale(t *testing.T, a *arena.Arena, hs ...api.Handle) {
	t.Helper()
	was := a.Len()
	if e := a.Free(hs...); e != api.ErrStale {
		t.Fatalf("Free(%v): %d", hs, e)
	}
	if a.Len() != was {
		t.Fatalf("Free(%v), which is stale: %d were taken, then %d", hs, was, a.Len())
	}
}

// wantLive: of the handles of slots and generations all about, just these are live.
func wantLive(t *testing.T, a *arena.Arena, live ...api.Handle) {
	t.Helper()
	for slot := -2; slot < 6; slot++ {
		for gen := -2; gen < 6; gen++ {
			h := at(slot, gen)
			if got := a.Live(h); got != slices.Contains(live, h) {
				t.Fatalf("Live(%v): %v; live are: %v", h, got, live)
			}
		}
	}
}

// strange are handles that no arena of up to 2^20 slots answers.
var strange = []api.Handle{
	at(-1, 0), at(-1, -1), at(-2, 0), at(math.MinInt, 0), at(math.MinInt, math.MinInt),
	at(maxRoom, 0), at(maxRoom+1, 0), at(1<<32, 0), at(-1<<32, 0), at(1<<40, 1), at(math.MaxInt, 0), at(math.MaxInt, math.MaxInt),
	at(0, -1), at(0, math.MinInt), at(0, math.MaxInt), at(0, 1<<32), at(0, -1<<32), at(1, -1), at(1, 1<<32),
	at(1<<32+1, 0), at(0, math.MaxInt32), at(1, 1<<31), at(1<<31, 0),
}

// P5.1

func TestNew(t *testing.T) {
	for _, room := range []int{0, 1, 2, 3, 1000, maxRoom - 1, maxRoom} {
		a := made(t, room)
		if a.Room() != room || a.Len() != 0 {
			t.Errorf("of room %d: Room %d, Len %d", room, a.Room(), a.Len())
		}
		if a.Live(api.Handle{}) {
			t.Errorf("of room %d: a slot is live that was not taken", room)
		}
	}
}

func TestNewOfNoRoom(t *testing.T) {
	for _, room := range []int{-1, -2, -maxRoom, -1 << 32, math.MinInt, maxRoom + 1, maxRoom + 2, 1 << 32, 1<<32 + 1, 1 << 62, math.MaxInt} {
		if a, e := arena.New(room); a != nil || e != api.ErrArg {
			t.Errorf("New(%d): %v, %d", room, a, e)
		}
	}
}

func TestTheDocumentsExample(t *testing.T) {
	a := made(t, 2)
	wantTakes(t, a, at(0, 0), at(1, 0))
	wantFree(t, a, at(0, 0))
	wantTakes(t, a, at(0, 1))
	if a.Live(at(0, 0)) {
		t.Error("{0 0} was freed, and is live")
	}
}

func TestRoom0(t *testing.T) {
	a := made(t, 0)
	wantFull(t, a)
	wantMany(t, a, 0)
	wantNoMany(t, a, 1, api.ErrFull)
	wantNoMany(t, a, math.MaxInt, api.ErrFull)
	wantNoMany(t, a, -1, api.ErrArg)
	wantFree(t, a)
	wantStale(t, a, api.Handle{})
	wantLive(t, a)
	wantFull(t, a)
}

func TestRoom1(t *testing.T) {
	a := made(t, 1)
	for gen := range 100 {
		wantTakes(t, a, at(0, gen))
		wantNoMany(t, a, 1, api.ErrFull)
		wantMany(t, a, 0)
		wantFree(t, a, at(0, gen))
	}
	wantMany(t, a, 1, at(0, 100))
}

func TestTheGreatestRoom(t *testing.T) {
	a := made(t, maxRoom)
	want := make([]api.Handle, maxRoom)
	for slot := range want {
		want[slot] = at(slot, 0)
		if h, e := a.Take(); h != want[slot] || e != api.OK {
			t.Fatalf("Take: %v, %d; wanted: %v", h, e, want[slot])
		}
	}
	wantFull(t, a)
	wantStale(t, a, append(slices.Clone(want), want[0])...)
	wantFree(t, a, want...)
	wantNoMany(t, a, maxRoom+1, api.ErrFull)
	for i := range want {
		want[i] = at(maxRoom-1-i, 1)
	}
	hs, e := a.Many(maxRoom)
	if !slices.Equal(hs, want) || e != api.OK {
		t.Fatalf("Many of all: %d of them, %d", len(hs), e)
	}
	wantFull(t, a)
	wantNoMany(t, a, 1, api.ErrFull)
	wantFree(t, a, at(maxRoom-1, 1))
	wantTakes(t, a, at(maxRoom-1, 2))
}

func TestManyOfTheGreatestRoomAtOnce(t *testing.T) {
	hs, e := made(t, maxRoom).Many(maxRoom)
	if len(hs) != maxRoom || e != api.OK {
		t.Fatalf("%d, %d", len(hs), e)
	}
	for slot, h := range hs {
		if h != at(slot, 0) {
			t.Fatalf("the %d. is %v", slot, h)
		}
	}
}

func TestTakeBehindAFree(t *testing.T) {
	a := made(t, 3)
	wantTakes(t, a, at(0, 0), at(1, 0), at(2, 0))
	wantFree(t, a, at(1, 0))
	wantTakes(t, a, at(1, 1))
	wantFree(t, a, at(0, 0))
	wantFree(t, a, at(2, 0))
	wantTakes(t, a, at(2, 1), at(0, 1))
	wantFree(t, a, at(1, 1), at(0, 1), at(2, 1))
	wantTakes(t, a, at(2, 2), at(0, 2), at(1, 2))
}

func TestWhatWasFreedComesAheadOfWhatWasNeverTaken(t *testing.T) {
	a := made(t, 5)
	wantMany(t, a, 3, at(0, 0), at(1, 0), at(2, 0))
	wantFree(t, a, at(0, 0))
	wantFree(t, a, at(1, 0))
	wantTakes(t, a, at(1, 1), at(0, 1), at(3, 0), at(4, 0))

	b := made(t, 4)
	wantMany(t, b, 2, at(0, 0), at(1, 0))
	wantFree(t, b, at(1, 0))
	wantMany(t, b, 1, at(1, 1))
	wantMany(t, b, 1, at(2, 0))
	wantFree(t, b, at(0, 0), at(2, 0))
	wantMany(t, b, 3, at(2, 1), at(0, 1), at(3, 0))
}

func TestTheOneThatWasFreedLastOfThoseThatAreFree(t *testing.T) {
	a := made(t, 4)
	wantMany(t, a, 4, at(0, 0), at(1, 0), at(2, 0), at(3, 0))
	wantFree(t, a, at(3, 0))
	wantFree(t, a, at(0, 0))
	wantMany(t, a, 1, at(0, 1))
	wantFree(t, a, at(1, 0))
	wantMany(t, a, 1, at(1, 1))
	wantFree(t, a, at(0, 1)) // freed again: it stands where it was freed last
	wantFree(t, a, at(2, 0))
	wantTakes(t, a, at(2, 1), at(0, 2), at(3, 1))
}

func TestMany(t *testing.T) {
	for room := range 5 {
		for n := range room + 1 {
			a := made(t, room)
			var want []api.Handle
			for slot := range n {
				want = append(want, at(slot, 0))
			}
			wantMany(t, a, 0)
			wantMany(t, a, n, want...)
			if a.Len() != n {
				t.Fatalf("Many(%d): Len %d", n, a.Len())
			}
			wantLive(t, a, want...)
			wantMany(t, a, 0)
			for _, over := range []int{room - n + 1, room - n + 2, maxRoom, maxRoom + 1, math.MaxInt32, 1 << 40, math.MaxInt - 1, math.MaxInt} {
				wantNoMany(t, a, over, api.ErrFull)
			}
			wantFree(t, a, want...)
			wantNoMany(t, a, room+1, api.ErrFull)
			slices.Reverse(want)
			for i := range want {
				want[i].Gen = 1
			}
			for slot := n; slot < room; slot++ {
				want = append(want, at(slot, 0))
			}
			wantMany(t, a, room, want...)
			wantFull(t, a)
		}
	}
}

func TestManyOfFewerThanNone(t *testing.T) {
	for _, taken := range []int{0, 1, 3} { // ErrArg also where it is full
		a := made(t, 3)
		if _, e := a.Many(taken); e != api.OK {
			t.Fatal(e)
		}
		for _, n := range []int{-1, -2, -3, -1 << 31, -1 << 32, math.MinInt + 1, math.MinInt} {
			wantNoMany(t, a, n, api.ErrArg)
		}
		if taken < 3 {
			wantMany(t, a, 1, at(taken, 0))
		}
	}
}

func TestAManyThatFailsLeavesTheOrder(t *testing.T) {
	a := made(t, 4)
	wantMany(t, a, 3, at(0, 0), at(1, 0), at(2, 0))
	wantFree(t, a, at(1, 0), at(0, 0))
	wantNoMany(t, a, 4, api.ErrFull)
	wantNoMany(t, a, -1, api.ErrArg)
	wantLive(t, a, at(2, 0))
	wantTakes(t, a, at(0, 1), at(1, 1), at(3, 0))
}

// P5.2

func TestFreeOfNone(t *testing.T) {
	a := made(t, 2)
	for taken := range 3 {
		wantFree(t, a)
		wantFree(t, a, []api.Handle{}...)
		if a.Len() != taken {
			t.Errorf("Len %d; wanted: %d", a.Len(), taken)
		}
		a.Take()
	}
	wantLive(t, a, at(0, 0), at(1, 0))
}

func TestFreeOfAllInEachOrder(t *testing.T) {
	for _, order := range [][]int{{0, 1, 2}, {0, 2, 1}, {1, 0, 2}, {1, 2, 0}, {2, 0, 1}, {2, 1, 0}} {
		a := made(t, 3)
		wantMany(t, a, 3, at(0, 0), at(1, 0), at(2, 0))
		wantFree(t, a, at(order[0], 0), at(order[1], 0), at(order[2], 0))
		wantLive(t, a)
		wantTakes(t, a, at(order[2], 1), at(order[1], 1), at(order[0], 1))
	}
}

func TestGenerations(t *testing.T) {
	a := made(t, 3)
	wantMany(t, a, 2, at(0, 0), at(1, 0))
	for gen := range 5000 {
		wantFree(t, a, at(1, gen))
		for _, h := range []api.Handle{at(1, gen), at(1, gen+1)} { // it is free
			if a.Live(h) {
				t.Fatalf("%v is live, and its slot is free", h)
			}
			wantStale(t, a, h)
		}
		wantMany(t, a, 1, at(1, gen+1))
		for _, h := range []api.Handle{at(1, gen), at(1, gen+2), at(1, 0), at(1, -1)} {
			if a.Live(h) {
				t.Fatalf("%v is live in generation %d", h, gen+1)
			}
			wantStale(t, a, h)
		}
		if !a.Live(at(1, gen+1)) || !a.Live(at(0, 0)) || a.Live(at(0, gen+1)) || a.Live(at(2, 0)) || a.Len() != 2 {
			t.Fatalf("in generation %d", gen+1)
		}
	}
	wantTakes(t, a, at(2, 0))
}

func TestLive(t *testing.T) {
	a := made(t, 3)
	wantLive(t, a)
	wantMany(t, a, 2, at(0, 0), at(1, 0))
	wantLive(t, a, at(0, 0), at(1, 0))
	wantNoneLive(t, a, strange)
	wantFree(t, a, at(0, 0))
	wantLive(t, a, at(1, 0))
	wantMany(t, a, 1, at(0, 1))
	wantLive(t, a, at(1, 0), at(0, 1))
	wantFree(t, a, at(0, 1), at(1, 0))
	wantLive(t, a)
	wantTakes(t, a, at(1, 1), at(0, 2), at(2, 0))
	wantLive(t, a, at(0, 2), at(1, 1), at(2, 0))
	wantNoneLive(t, a, strange)
}

func wantNoneLive(t *testing.T, a *arena.Arena, hs []api.Handle) {
	t.Helper()
	for _, h := range hs {
		if a.Live(h) {
			t.Errorf("%v is live", h)
		}
	}
}

// ready has slot 0 in generation 1, 1 free (it was freed ahead of 3), 2 in generation 0, 3 free, 4 and 5 never taken.
func ready(t *testing.T) *arena.Arena {
	t.Helper()
	a := made(t, 6)
	wantMany(t, a, 4, at(0, 0), at(1, 0), at(2, 0), at(3, 0))
	wantFree(t, a, at(1, 0), at(3, 0), at(0, 0))
	wantMany(t, a, 1, at(0, 1))
	return a
}

func TestFreeOfWhatIsntLive(t *testing.T) {
	x, y := at(0, 1), at(2, 0)
	bad := slices.Concat(strange, []api.Handle{
		at(0, 0), at(0, 2), // an elder generation, a later one
		at(1, 0), at(1, 1), at(3, 0), at(3, 1), // free
		at(2, -1), at(2, 1),
		at(4, 0), at(5, 0), at(5, 1), // never taken
		at(6, 0), at(7, 0), // at the room, above it
	})
	var lists [][]api.Handle
	for _, b := range bad {
		lists = append(lists, []api.Handle{b}, []api.Handle{b, b}, []api.Handle{b, x}, []api.Handle{x, b}, []api.Handle{y, b, x}, []api.Handle{b, x, y}, []api.Handle{x, y, b})
	}
	lists = append(lists, []api.Handle{x, x}, []api.Handle{x, y, x}, []api.Handle{y, x, x}, []api.Handle{x, x, y}, []api.Handle{x, y, x, y}, []api.Handle{x, at(0, 2)}, []api.Handle{x, at(0, 0)})
	one := ready(t) // one that meets all of them, and one each
	for _, hs := range lists {
		for _, a := range []*arena.Arena{one, ready(t)} {
			wantStale(t, a, hs...)
			wantLive(t, a, x, y)
		}
		a := ready(t)
		wantStale(t, a, hs...)
		wantTakes(t, a, at(3, 1), at(1, 1), at(4, 0), at(5, 0))
		wantFree(t, a, x)
		wantTakes(t, a, at(0, 2))
	}
	wantFree(t, one, x, y)
	wantTakes(t, one, at(2, 1), at(0, 2), at(3, 1), at(1, 1), at(4, 0), at(5, 0))
}

func TestLenAndRoom(t *testing.T) {
	a := made(t, 4)
	for n := range 4 {
		if a.Len() != n || a.Room() != 4 {
			t.Errorf("behind %d: Len %d, Room %d", n, a.Len(), a.Room())
		}
		a.Take()
	}
	wantFull(t, a)
	wantFree(t, a, at(1, 0), at(2, 0), at(3, 0))
	if a.Len() != 1 || a.Room() != 4 {
		t.Errorf("Len %d, Room %d", a.Len(), a.Room())
	}
}

// P5.3

// model is an arena as the document's words tell it: each slot with when it was freed last.
type model struct {
	slots []slot
	now   int
}

type slot struct {
	taken      bool
	gen, freed int // freed: when; 0: never
}

func (m *model) free() int {
	n := 0
	for _, s := range m.slots {
		if !s.taken {
			n++
		}
	}
	return n
}

func (m *model) take() (api.Handle, api.Errno) {
	best := -1
	for i, s := range m.slots {
		if !s.taken && (best < 0 || s.freed > m.slots[best].freed) {
			best = i
		}
	}
	if best < 0 {
		return api.Handle{}, api.ErrFull
	}
	m.slots[best].taken = true
	return at(best, m.slots[best].gen), api.OK
}

func (m *model) many(n int) ([]api.Handle, api.Errno) {
	if n < 0 {
		return nil, api.ErrArg
	}
	if n > m.free() {
		return nil, api.ErrFull
	}
	var hs []api.Handle
	for range n {
		h, _ := m.take()
		hs = append(hs, h)
	}
	return hs, api.OK
}

func (m *model) live(h api.Handle) bool {
	return 0 <= h.Slot && h.Slot < len(m.slots) && m.slots[h.Slot].taken && m.slots[h.Slot].gen == h.Gen
}

func (m *model) frees(hs ...api.Handle) api.Errno {
	for i, h := range hs {
		if !m.live(h) || slices.ContainsFunc(hs[:i], func(g api.Handle) bool { return g.Slot == h.Slot }) {
			return api.ErrStale
		}
	}
	for _, h := range hs {
		m.now++
		m.slots[h.Slot] = slot{gen: h.Gen + 1, freed: m.now}
	}
	return api.OK
}

// both are an arena and what it ought to be, and what was ever answered.
type both struct {
	a     *arena.Arena
	m     *model
	given []api.Handle
	freed map[api.Handle]bool
}

func bothOf(t testing.TB, room int) *both {
	return &both{a: made(t, room), m: &model{slots: make([]slot, room)}, freed: map[api.Handle]bool{}}
}

func (b *both) take(t testing.TB) {
	t.Helper()
	want, wantE := b.m.take()
	if h, e := b.a.Take(); h != want || e != wantE {
		t.Fatalf("Take: %v, %d; wanted: %v, %d", h, e, want, wantE)
	}
	if wantE == api.OK {
		b.given = append(b.given, want)
	}
}

func (b *both) many(t testing.TB, n int) {
	t.Helper()
	want, wantE := b.m.many(n)
	if hs, e := b.a.Many(n); !slices.Equal(hs, want) || e != wantE {
		t.Fatalf("Many(%d): %v, %d; wanted: %v, %d", n, hs, e, want, wantE)
	}
	b.given = append(b.given, want...)
}

func (b *both) frees(t testing.TB, hs ...api.Handle) {
	t.Helper()
	want := b.m.frees(hs...)
	if e := b.a.Free(hs...); e != want {
		t.Fatalf("Free(%v): %d; wanted: %d", hs, e, want)
	}
	if want == api.OK {
		for _, h := range hs {
			b.freed[h] = true
		}
	}
}

// check: what is live, of all that were ever given and of some that weren't; and that no two live ones have one slot.
func (b *both) check(t testing.TB) {
	t.Helper()
	slots := map[int]bool{}
	for _, h := range b.given {
		if b.a.Live(h) == b.freed[h] {
			t.Fatalf("Live(%v): %v; it was freed: %v", h, !b.freed[h], b.freed[h])
		}
		if b.a.Live(h) && slots[h.Slot] {
			t.Fatalf("two live ones have the slot of %v", h)
		}
		slots[h.Slot] = slots[h.Slot] || b.a.Live(h)
	}
	for i := -1; i <= len(b.m.slots); i++ {
		for gen := -1; gen < 5; gen++ {
			if h := at(i, gen); b.a.Live(h) != b.m.live(h) {
				t.Fatalf("Live(%v): %v", h, b.a.Live(h))
			}
		}
	}
	if n := len(b.m.slots) - b.m.free(); b.a.Len() != n || b.a.Room() != len(b.m.slots) {
		t.Fatalf("Len %d, Room %d; wanted: %d, %d", b.a.Len(), b.a.Room(), n, len(b.m.slots))
	}
}

func TestAllShortScripts(t *testing.T) {
	last := func(b *both, n int) api.Handle { // the n. of those that were given, from the end on
		if n < len(b.given) {
			return b.given[len(b.given)-1-n]
		}
		return at(n, 0)
	}
	steps := []func(b *both){
		func(b *both) { b.take(t) },
		func(b *both) { b.many(t, 2) },
		func(b *both) { b.frees(t, last(b, 0)) },
		func(b *both) { b.frees(t, last(b, 1)) },
		func(b *both) { b.frees(t, last(b, 2), last(b, 0)) },
		func(b *both) { b.frees(t, last(b, 0), last(b, 1), last(b, 0)) },
		func(b *both) { b.frees(t, at(0, 0), at(1, 0)) },
	}
	for room := range 4 {
		for length, count := 0, 1; length <= 5; length, count = length+1, count*len(steps) {
			for script := range count {
				b := bothOf(t, room)
				for range length {
					steps[script%len(steps)](b)
					script /= len(steps)
				}
				b.check(t)
				for range room + 1 { // what is free tells itself by what is taken
					b.take(t)
				}
			}
		}
	}
}

func TestLongScripts(t *testing.T) {
	for seed := range uint64(40) {
		roll := samples.Dice(seed)
		b := bothOf(t, 1+roll(12))
		for range 400 {
			switch roll(8) {
			case 0, 1, 2:
				b.take(t)
			case 3:
				b.many(t, roll(len(b.m.slots)+3)-1)
			default:
				var hs []api.Handle
				for range roll(4) {
					if len(b.given) > 0 {
						hs = append(hs, b.given[len(b.given)-1-roll(min(len(b.given), 15))])
					}
				}
				if roll(6) == 0 {
					hs = append(hs, at(roll(14)-1, roll(6)-1))
				}
				b.frees(t, hs...)
			}
			b.check(t)
		}
	}
}

func TestManyAnswersNewMemory(t *testing.T) {
	a := made(t, 6)
	first := wantMany(t, a, 2, at(0, 0), at(1, 0))
	second := wantMany(t, a, 2, at(2, 0), at(3, 0))
	_ = append(first, at(9, 9))
	first[0], first[1] = at(7, 7), at(8, 8)
	if !slices.Equal(second, []api.Handle{at(2, 0), at(3, 0)}) {
		t.Errorf("one answer was written into, and another one is %v", second)
	}
	wantLive(t, a, at(0, 0), at(1, 0), at(2, 0), at(3, 0))
	wantFree(t, a, second...)
	wantFree(t, a, at(0, 0), at(1, 0))
	third := wantMany(t, a, 3, at(1, 1), at(0, 1), at(3, 1))
	clear(third[:cap(third)])
	wantTakes(t, a, at(2, 1), at(4, 0), at(5, 0))
	wantFree(t, a, at(3, 1))
	clear(second[:cap(second)])
	wantTakes(t, a, at(3, 2))
}

func TestFreeNeitherChangesNorKeepsWhatIsHandedIn(t *testing.T) {
	a := made(t, 4)
	wantMany(t, a, 4, at(0, 0), at(1, 0), at(2, 0), at(3, 0))
	spare := []api.Handle{at(0, 0), at(1, 0), at(9, 9), at(8, 8)}
	was := slices.Clone(spare)
	wantFree(t, a, spare[:2]...)
	if !slices.Equal(spare, was) {
		t.Errorf("Free made of its argument %v", spare)
	}
	clear(spare)
	wantStale(t, a, append(spare[:0], at(2, 0), at(3, 0), at(2, 0))...)
	if want := []api.Handle{at(2, 0), at(3, 0), at(2, 0), {}}; !slices.Equal(spare, want) {
		t.Errorf("Free made of its argument %v", spare)
	}
	clear(spare)
	wantTakes(t, a, at(1, 1), at(0, 1))
	if want := make([]api.Handle, 4); !slices.Equal(spare, want) {
		t.Errorf("Take made of an argument of Free's %v", spare)
	}
}

func TestArenasAreApart(t *testing.T) {
	a, b := made(t, 2), made(t, 2)
	wantTakes(t, a, at(0, 0), at(1, 0))
	wantLive(t, b)
	wantFree(t, a, at(0, 0))
	wantStale(t, b, at(1, 0))
	wantTakes(t, b, at(0, 0), at(1, 0))
	wantTakes(t, a, at(0, 1))
	wantLive(t, b, at(0, 0), at(1, 0))
	wantLive(t, a, at(0, 1), at(1, 0))
}
