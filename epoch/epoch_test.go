package epoch_test

import (
	"math"
	"slices"
	"testing"

	"cobweb/api"
	"cobweb/epoch"
	"cobweb/samples"
)

const (
	maxSessions = 64
	none        = -1 // the epoch of a session that is in none
)

func made(t testing.TB, sessions, first int) *epoch.Table {
	t.Helper()
	x, e := epoch.New(sessions, first)
	if x == nil || e != api.OK {
		t.Fatalf("New(%d, %d): %v, %d", sessions, first, x, e)
	}
	return x
}

func wantEnter(t testing.TB, x *epoch.Table, s, want int, wantE api.Errno) {
	t.Helper()
	if n, e := x.Enter(s); n != want || e != wantE {
		t.Fatalf("Enter(%d): %d, %d; wanted: %d, %d", s, n, e, want, wantE)
	}
}

func wantLeave(t testing.TB, x *epoch.Table, s int, want api.Errno) {
	t.Helper()
	if e := x.Leave(s); e != want {
		t.Fatalf("Leave(%d): %d; wanted: %d", s, e, want)
	}
}

func wantRefresh(t testing.TB, x *epoch.Table, s, want int, wantE api.Errno) {
	t.Helper()
	if n, e := x.Refresh(s); n != want || e != wantE {
		t.Fatalf("Refresh(%d): %d, %d; wanted: %d, %d", s, n, e, want, wantE)
	}
}

func wantAdvance(t testing.TB, x *epoch.Table, want int, wantE api.Errno) {
	t.Helper()
	if n, e := x.Advance(); n != want || e != wantE {
		t.Fatalf("Advance: %d, %d; wanted: %d, %d", n, e, want, wantE)
	}
}

// strangers are sessions that a table of so many has none of.
func strangers(sessions int) []int {
	return []int{
		-1, -2, -maxSessions, -1 << 31, -1 << 32, math.MinInt + 1, math.MinInt,
		sessions, sessions + 1, 2 * sessions, maxSessions, maxSessions + 1, 127, 128, 255, 256, 1 << 31, 1 << 32, 1<<32 + sessions - 1, math.MaxInt - 1, math.MaxInt,
	}
}

// wantState: all that a table tells; in are its sessions' epochs, one each.
func wantState(t testing.TB, x *epoch.Table, global int, in ...int) {
	t.Helper()
	least := global
	var busy []int
	for s, want := range in {
		n, ok := x.In(s)
		if want == none && (n != 0 || ok) || want != none && (n != want || !ok) {
			t.Fatalf("In(%d): %d, %v; wanted: %d of %v", s, n, ok, want, in)
		}
		if want != none {
			least = min(least, want)
			busy = append(busy, s)
		}
	}
	for _, s := range strangers(len(in)) {
		if n, ok := x.In(s); n != 0 || ok {
			t.Fatalf("In(%d) of %d sessions: %d, %v", s, len(in), n, ok)
		}
	}
	if got := x.Busy(); !slices.Equal(got, busy) {
		t.Fatalf("Busy: %v; wanted: %v of %v", got, busy, in)
	}
	if x.Global() != global || x.Least() != least {
		t.Fatalf("Global %d, Least %d; wanted: %d, %d, with %v", x.Global(), x.Least(), global, least, in)
	}
}

// alike are so many sessions' epochs, all the same.
func alike(sessions, epoch int) []int {
	return slices.Repeat([]int{epoch}, sessions)
}

// P6.1

func TestNew(t *testing.T) {
	for _, first := range []int{0, 1, 2, 5, 1 << 16, 1 << 30, api.MaxEpoch - 1, api.MaxEpoch} {
		for sessions := 1; sessions <= maxSessions; sessions++ {
			wantState(t, made(t, sessions, first), first, alike(sessions, none)...)
		}
	}
}

func TestNewOfWrongNumbers(t *testing.T) {
	sessions := []int{0, -1, -2, -maxSessions, -1 << 32, 1<<32 + 1, -1<<32 + 1, math.MinInt, maxSessions + 1, maxSessions + 2, 128, 256, 1 << 31, math.MaxInt}
	firsts := []int{-1, -2, -1 << 31, -1 << 32, math.MinInt, api.MaxEpoch + 1, api.MaxEpoch + 2, 1 << 32, 1<<32 + 5, 1 << 62, math.MaxInt}
	wrong := func(sessions, first int) {
		if x, e := epoch.New(sessions, first); x != nil || e != api.ErrArg {
			t.Errorf("New(%d, %d): %v, %d", sessions, first, x, e)
		}
	}
	for _, n := range sessions {
		for _, first := range []int{0, 5, api.MaxEpoch} {
			wrong(n, first)
		}
		for _, first := range firsts {
			wrong(n, first)
		}
	}
	for _, first := range firsts {
		for _, n := range []int{1, 2, maxSessions} {
			wrong(n, first)
		}
	}
}

func TestTheDocumentsExample(t *testing.T) {
	x := made(t, 2, 5)
	wantEnter(t, x, 0, 5, api.OK)
	wantAdvance(t, x, 6, api.OK)
	wantAdvance(t, x, 0, api.ErrBusy)
	wantRefresh(t, x, 0, 6, api.OK)
	wantAdvance(t, x, 7, api.OK)
	wantState(t, x, 7, 6, none)
}

func TestEachSessionByItself(t *testing.T) {
	for _, sessions := range []int{1, 2, 3, maxSessions - 1, maxSessions} {
		for s := range sessions {
			x := made(t, sessions, 3)
			in := alike(sessions, none)
			wantEnter(t, x, s, 3, api.OK)
			in[s] = 3
			wantState(t, x, 3, in...)
			wantAdvance(t, x, 4, api.OK)
			wantState(t, x, 4, in...)
			wantRefresh(t, x, s, 4, api.OK)
			in[s] = 4
			wantState(t, x, 4, in...)
			wantLeave(t, x, s, api.OK)
			in[s] = none
			wantState(t, x, 4, in...)
		}
	}
}

func TestEnterAtTheEndsOfEpochs(t *testing.T) {
	for _, first := range []int{0, 1, api.MaxEpoch - 1, api.MaxEpoch} {
		x := made(t, 2, first)
		wantEnter(t, x, 1, first, api.OK)
		wantState(t, x, first, none, first)
		wantRefresh(t, x, 1, first, api.OK)
		wantState(t, x, first, none, first)
		wantLeave(t, x, 1, api.OK)
		wantState(t, x, first, none, none)
	}
}

func TestEnterTwice(t *testing.T) {
	x := made(t, 2, 0)
	wantEnter(t, x, 0, 0, api.OK) // in epoch 0: that is in one, too
	wantEnter(t, x, 0, 0, api.ErrTwice)
	wantState(t, x, 0, 0, none)
	wantAdvance(t, x, 1, api.OK)
	wantEnter(t, x, 0, 0, api.ErrTwice) // nor does it come into the next one
	wantState(t, x, 1, 0, none)
	wantEnter(t, x, 1, 1, api.OK)
	wantEnter(t, x, 1, 0, api.ErrTwice)
	wantState(t, x, 1, 0, 1)
	wantRefresh(t, x, 0, 1, api.OK)
	wantEnter(t, x, 0, 0, api.ErrTwice)
	wantState(t, x, 1, 1, 1)
}

func TestLeaveAndEnterAgain(t *testing.T) {
	x := made(t, 3, 7)
	wantEnter(t, x, 2, 7, api.OK)
	wantLeave(t, x, 2, api.OK)
	wantEnter(t, x, 2, 7, api.OK)
	wantAdvance(t, x, 8, api.OK)
	wantAdvance(t, x, 0, api.ErrBusy)
	wantLeave(t, x, 2, api.OK) // from the epoch below, so that nobody is in it any more
	wantState(t, x, 8, none, none, none)
	wantAdvance(t, x, 9, api.OK)
	wantEnter(t, x, 2, 9, api.OK)
	wantState(t, x, 9, none, none, 9)
}

func TestOfASessionThatIsInNone(t *testing.T) {
	x := made(t, 3, 4)
	stale := func(s int) {
		t.Helper()
		wantLeave(t, x, s, api.ErrStale)
		wantRefresh(t, x, s, 0, api.ErrStale)
	}
	stale(0)
	stale(2)
	wantState(t, x, 4, none, none, none)
	wantEnter(t, x, 1, 4, api.OK)
	stale(0)
	stale(2)
	wantState(t, x, 4, none, 4, none)
	wantAdvance(t, x, 5, api.OK)
	stale(0)
	wantState(t, x, 5, none, 4, none)
	wantLeave(t, x, 1, api.OK)
	stale(1) // nor is it left twice
	wantState(t, x, 5, none, none, none)
}

func TestOfSessionsThatThereAreNone(t *testing.T) {
	for _, sessions := range []int{1, 2, 32, maxSessions} {
		x := made(t, sessions, 6)
		in := alike(sessions, none)
		for range 3 { // where nobody is in an epoch, where one is, where one is left behind
			for _, s := range strangers(sessions) {
				wantEnter(t, x, s, 0, api.ErrArg)
				wantEnter(t, x, s, 0, api.ErrArg)
				wantRefresh(t, x, s, 0, api.ErrArg)
				wantLeave(t, x, s, api.ErrArg)
			}
			wantState(t, x, x.Global(), in...)
			if in[0] == none {
				wantEnter(t, x, 0, 6, api.OK)
				in[0] = 6
			} else if x.Global() == 6 {
				wantAdvance(t, x, 7, api.OK)
			}
		}
		wantState(t, x, 7, in...)
	}
}

func TestRefresh(t *testing.T) {
	x := made(t, 2, 0)
	wantEnter(t, x, 0, 0, api.OK)
	wantEnter(t, x, 1, 0, api.OK)
	wantRefresh(t, x, 0, 0, api.OK) // in the global one already
	wantState(t, x, 0, 0, 0)
	wantAdvance(t, x, 1, api.OK)
	wantRefresh(t, x, 1, 1, api.OK)
	wantState(t, x, 1, 0, 1)
	wantAdvance(t, x, 0, api.ErrBusy)
	wantRefresh(t, x, 1, 1, api.OK)
	wantRefresh(t, x, 0, 1, api.OK)
	wantState(t, x, 1, 1, 1)
	wantAdvance(t, x, 2, api.OK)
	wantState(t, x, 2, 1, 1)
}

// P6.2

func TestAdvanceWhereNobodyIsIn(t *testing.T) {
	x := made(t, 2, 0)
	for n := range 1000 {
		wantAdvance(t, x, n+1, api.OK)
		if x.Global() != n+1 || x.Least() != n+1 {
			t.Fatalf("Global %d, Least %d; wanted: %d", x.Global(), x.Least(), n+1)
		}
	}
	wantState(t, x, 1000, none, none)
	wantEnter(t, x, 1, 1000, api.OK)
}

func TestAdvanceWhereAllAreIn(t *testing.T) {
	for _, sessions := range []int{1, 2, maxSessions} {
		x := made(t, sessions, 8)
		for s := range sessions {
			wantEnter(t, x, s, 8, api.OK)
		}
		wantState(t, x, 8, alike(sessions, 8)...)
		wantAdvance(t, x, 9, api.OK)
		in := alike(sessions, 8)
		for s := range sessions { // as long as one of them is left behind there is no next epoch
			wantAdvance(t, x, 0, api.ErrBusy)
			wantState(t, x, 9, in...)
			wantRefresh(t, x, s, 9, api.OK)
			in[s] = 9
		}
		wantState(t, x, 9, in...)
		wantAdvance(t, x, 10, api.OK)
		wantState(t, x, 10, in...)
	}
}

func TestAdvanceWhereOneIsLeftBehind(t *testing.T) {
	for behind := range maxSessions {
		x := made(t, maxSessions, 2)
		in := alike(maxSessions, none)
		for s := range maxSessions {
			wantEnter(t, x, s, 2, api.OK)
		}
		wantAdvance(t, x, 3, api.OK)
		for s := range maxSessions {
			switch {
			case s == behind:
				in[s] = 2
			case s%2 == 0:
				wantRefresh(t, x, s, 3, api.OK)
				in[s] = 3
			default:
				wantLeave(t, x, s, api.OK)
			}
		}
		for range 3 {
			wantAdvance(t, x, 0, api.ErrBusy)
			wantState(t, x, 3, in...)
		}
		if behind%3 == 0 {
			wantLeave(t, x, behind, api.OK)
			in[behind] = none
		} else {
			wantRefresh(t, x, behind, 3, api.OK)
			in[behind] = 3
		}
		wantAdvance(t, x, 4, api.OK)
		wantState(t, x, 4, in...)
	}
}

func TestAdvanceAtTheLastEpoch(t *testing.T) {
	x := made(t, 2, api.MaxEpoch)
	wantAdvance(t, x, 0, api.ErrSpent)
	wantState(t, x, api.MaxEpoch, none, none)
	wantEnter(t, x, 1, api.MaxEpoch, api.OK)
	wantAdvance(t, x, 0, api.ErrSpent)
	wantState(t, x, api.MaxEpoch, none, api.MaxEpoch)
}

func TestAdvanceToTheLastEpoch(t *testing.T) {
	x := made(t, 3, api.MaxEpoch-2)
	wantAdvance(t, x, api.MaxEpoch-1, api.OK)
	wantEnter(t, x, 0, api.MaxEpoch-1, api.OK)
	wantAdvance(t, x, api.MaxEpoch, api.OK)
	wantEnter(t, x, 1, api.MaxEpoch, api.OK)
	wantAdvance(t, x, 0, api.ErrSpent) // ahead of ErrBusy: somebody is left behind
	wantState(t, x, api.MaxEpoch, api.MaxEpoch-1, api.MaxEpoch, none)
	wantRefresh(t, x, 0, api.MaxEpoch, api.OK)
	wantAdvance(t, x, 0, api.ErrSpent)
	wantLeave(t, x, 1, api.OK)
	wantState(t, x, api.MaxEpoch, api.MaxEpoch, none, none)
}

func TestBusyRises(t *testing.T) {
	order := []int{63, 0, 32, 31, 62, 1, 7, 33, 20}
	x := made(t, maxSessions, 1)
	in := alike(maxSessions, none)
	for _, s := range order {
		wantEnter(t, x, s, 1, api.OK)
		in[s] = 1
		wantState(t, x, 1, in...)
	}
	for _, s := range order {
		wantLeave(t, x, s, api.OK)
		in[s] = none
		wantState(t, x, 1, in...)
	}
}

// P6.3

// model is a table as the document's words tell it.
type model struct {
	global int
	in     []int
}

func (m *model) there(s int) bool {
	return 0 <= s && s < len(m.in)
}

func (m *model) enter(s int) (int, api.Errno) {
	switch {
	case !m.there(s):
		return 0, api.ErrArg
	case m.in[s] != none:
		return 0, api.ErrTwice
	}
	m.in[s] = m.global
	return m.global, api.OK
}

func (m *model) leave(s int) api.Errno {
	switch {
	case !m.there(s):
		return api.ErrArg
	case m.in[s] == none:
		return api.ErrStale
	}
	m.in[s] = none
	return api.OK
}

func (m *model) refresh(s int) (int, api.Errno) {
	if e := m.leave(s); e != api.OK {
		return 0, e
	}
	return m.enter(s)
}

func (m *model) advance() (int, api.Errno) {
	below := func(n int) bool { return n != none && n < m.global }
	switch {
	case m.global == api.MaxEpoch:
		return 0, api.ErrSpent
	case slices.ContainsFunc(m.in, below):
		return 0, api.ErrBusy
	}
	m.global++
	return m.global, api.OK
}

// both are a table and what it ought to be.
type both struct {
	x *epoch.Table
	m model
}

// bothOf are in the state where each session is in no epoch (0), in the one below the global one (1), or in that (2).
func bothOf(t testing.TB, first int, states []int) *both {
	t.Helper()
	b := &both{x: made(t, len(states), first), m: model{global: first, in: alike(len(states), none)}}
	for s, state := range states {
		if state == 1 {
			b.do(t, s, 0)
		}
	}
	if slices.Contains(states, 1) {
		b.do(t, 0, 3)
	}
	for s, state := range states {
		if state == 2 {
			b.do(t, s, 0)
		}
	}
	return b
}

// do has session s make a call: Enter (0), Leave (1), Refresh (2); Advance (3) is nobody's.
func (b *both) do(t testing.TB, s, call int) {
	t.Helper()
	was := b.x.Global()
	switch call {
	case 0:
		want, e := b.m.enter(s)
		wantEnter(t, b.x, s, want, e)
	case 1:
		wantLeave(t, b.x, s, b.m.leave(s))
	case 2:
		want, e := b.m.refresh(s)
		wantRefresh(t, b.x, s, want, e)
	case 3:
		want, e := b.m.advance()
		wantAdvance(t, b.x, want, e)
	}
	if b.x.Global() < was || b.x.Global() > b.x.Least()+1 {
		t.Fatalf("the global epoch was %d, and is %d; the least: %d", was, b.x.Global(), b.x.Least())
	}
	wantState(t, b.x, b.m.global, b.m.in...)
}

// script has two calls of each kind, of each session and of some that there are none of.
func (b *both) script(t testing.TB, n int) {
	t.Helper()
	for range 2 {
		width := len(b.m.in) + 2
		b.do(t, n%width-1, n/width%4)
		n /= width * 4
	}
}

func TestTwoCallsInEachState(t *testing.T) {
	for _, first := range []int{0, 5, api.MaxEpoch - 2, api.MaxEpoch - 1} {
		for _, picks := range samples.Texts(3, "\x00", "\x01", "\x02") {
			if picks == "" {
				continue
			}
			var states []int
			for _, pick := range picks {
				states = append(states, int(pick))
			}
			calls := 4 * (len(states) + 2)
			for n := range calls * calls {
				bothOf(t, first, states).script(t, n)
			}
		}
	}
}

func TestLongScripts(t *testing.T) {
	for seed := range uint64(40) {
		roll := samples.Dice(seed)
		sessions := 1 + roll(maxSessions)
		b := bothOf(t, roll(3), alike(sessions, 0))
		for range 300 {
			b.do(t, roll(sessions+2)-1, roll(4))
		}
		for s := range sessions { // so that each script comes to epochs behind it, too
			b.do(t, s, roll(2)+1)
			b.do(t, s, 3)
		}
	}
}

func TestBusyAnswersNewMemory(t *testing.T) {
	x := made(t, 4, 0)
	for s := range 3 {
		wantEnter(t, x, s, 0, api.OK)
	}
	first, second := x.Busy(), x.Busy()
	_ = append(first, 9)
	for i := range first {
		first[i] = 7
	}
	if want := []int{0, 1, 2}; !slices.Equal(second, want) {
		t.Errorf("one answer was written into, and another one is %v", second)
	}
	wantState(t, x, 0, 0, 0, 0, none)
	wantEnter(t, x, 3, 0, api.OK)
	wantLeave(t, x, 0, api.OK)
	if want := []int{0, 1, 2}; !slices.Equal(second, want) {
		t.Errorf("sessions came and went, and an answer from ahead of that is %v", second)
	}
	clear(second[:cap(second)])
	wantState(t, x, 0, none, 0, 0, 0)
}

func TestTablesAreApart(t *testing.T) {
	x, y := made(t, 2, 5), made(t, 2, 5)
	wantEnter(t, x, 0, 5, api.OK)
	wantAdvance(t, x, 6, api.OK)
	wantState(t, y, 5, none, none)
	wantLeave(t, y, 0, api.ErrStale)
	wantEnter(t, y, 0, 5, api.OK)
	wantEnter(t, y, 1, 5, api.OK)
	wantState(t, x, 6, 5, none)
	wantLeave(t, x, 0, api.OK)
	wantState(t, y, 5, 5, 5)
}
