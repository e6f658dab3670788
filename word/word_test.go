package word_test

import (
	"cmp"
	"math"
	"slices"
	"strconv"
	"strings"
	"testing"

	"cobweb/api"
	"cobweb/word"
)

const (
	lock   uint64 = 1 << 63
	absent uint64 = 1 << 62
)

var epochs = []int{0, 1, 2, 3, 1 << 15, 1<<30 - 1, 1 << 30, 1<<31 - 2, api.MaxEpoch}

var seqs = []int{0, 1, 2, 3, 1 << 15, 1 << 29, api.MaxSeq - 1, api.MaxSeq}

// highs are sequences for which a word has room, and that no Tid has.
var highs = []int{api.MaxSeq + 1, api.MaxSeq + 2, 1<<30 + 1<<29, 1<<31 - 2, 1<<31 - 1}

// tids are some of these epochs and sequences, each with and without lock and absent.
func tids(epochs, seqs []int) []api.Tid {
	var out []api.Tid
	for _, epoch := range epochs {
		for _, seq := range seqs {
			for i := range 4 {
				out = append(out, api.Tid{Epoch: epoch, Seq: seq, Lock: i&1 != 0, Absent: i&2 != 0})
			}
		}
	}
	return out
}

// all are tids with the sequences that are none of a Tid's, too.
func all() []api.Tid {
	return tids(epochs, slices.Concat(seqs, highs))
}

// laid is the word of these parts, put together from digits as the document tells them; its Seq may be above MaxSeq.
func laid(t api.Tid) uint64 {
	digits := bit(t.Lock) + bit(t.Absent) + binary(t.Epoch) + binary(t.Seq)
	w, err := strconv.ParseUint(digits, 2, 64)
	if err != nil || len(digits) != 64 {
		panic("no word: " + digits)
	}
	return w
}

func bit(is bool) string {
	if is {
		return "1"
	}
	return "0"
}

// binary are 31 digits.
func binary(n int) string {
	s := strconv.FormatInt(int64(n), 2)
	return strings.Repeat("0", 31-len(s)) + s
}

// scattered are words whose bits lie about, the same ones each time.
func scattered() []uint64 {
	var out []uint64
	for i := range uint64(3000) {
		w := i * 0x9E3779B97F4A7C15
		out = append(out, w, w^w>>29, w&^(1<<30))
	}
	return out
}

// P4.1

func TestWordsAreLaidAsTold(t *testing.T) {
	for _, c := range []struct {
		t api.Tid
		w uint64
	}{
		{api.Tid{}, 0},
		{api.Tid{Seq: 1}, 1},
		{api.Tid{Seq: api.MaxSeq}, 1<<30 - 1},
		{api.Tid{Epoch: 1}, 1 << 31},
		{api.Tid{Epoch: 1, Seq: 2}, 1<<31 + 2},
		{api.Tid{Epoch: 2, Seq: 1}, 1<<32 + 1},
		{api.Tid{Epoch: api.MaxEpoch}, 1<<62 - 1<<31},
		{api.Tid{Epoch: api.MaxEpoch, Seq: api.MaxSeq}, 1<<62 - 1<<30 - 1},
		{api.Tid{Absent: true}, 1 << 62},
		{api.Tid{Lock: true}, 1 << 63},
		{api.Tid{Lock: true, Absent: true}, 3 << 62},
		{api.Tid{Epoch: 1, Seq: 2, Lock: true}, 1<<63 + 1<<31 + 2},
		{api.Tid{Epoch: 1, Seq: 2, Absent: true}, 1<<62 + 1<<31 + 2},
		{api.Tid{Epoch: api.MaxEpoch, Seq: api.MaxSeq, Lock: true, Absent: true}, math.MaxUint64 - 1<<30},
	} {
		if w, e := word.Pack(c.t); w != c.w || e != api.OK {
			t.Errorf("Pack(%v): %x, %d; wanted: %x", c.t, w, e, c.w)
		}
		if p, ok := word.Parts(c.w); p != c.t || !ok {
			t.Errorf("Parts(%x): %v, %v; wanted: %v", c.w, p, ok, c.t)
		}
	}
}

func TestPack(t *testing.T) {
	for _, c := range tids(epochs, seqs) {
		if w, e := word.Pack(c); w != laid(c) || e != api.OK {
			t.Errorf("Pack(%v): %x, %d; wanted: %x", c, w, e, laid(c))
		}
	}
}

func TestPackOfTidsThatArentRight(t *testing.T) {
	noEpochs := []int{-1, -2, -1 << 31, -1 << 32, -1 << 33, math.MinInt, math.MinInt + 1, 1 << 31, 1<<31 + 1, 1 << 32, 1<<32 + 1, 1 << 33, 1 << 62, math.MaxInt}
	noSeqs := slices.Concat(highs, noEpochs)
	for _, c := range slices.Concat(tids(noEpochs, seqs), tids(epochs, noSeqs), tids(noEpochs, noSeqs)) {
		if w, e := word.Pack(c); w != 0 || e != api.ErrArg {
			t.Errorf("Pack(%v): %x, %d", c, w, e)
		}
	}
}

func TestParts(t *testing.T) {
	for _, c := range tids(epochs, seqs) {
		if p, ok := word.Parts(laid(c)); p != c || !ok {
			t.Errorf("Parts(%x): %v, %v; wanted: %v", laid(c), p, ok, c)
		}
	}
	for _, c := range tids(epochs, highs) {
		if p, ok := word.Parts(laid(c)); p != (api.Tid{}) || ok {
			t.Errorf("Parts(%x): %v, %v", laid(c), p, ok)
		}
	}
	if p, ok := word.Parts(math.MaxUint64); p != (api.Tid{}) || ok {
		t.Errorf("Parts of all bits: %v, %v", p, ok)
	}
}

func TestStamp(t *testing.T) {
	for _, c := range all() {
		want := laid(api.Tid{Epoch: c.Epoch, Seq: c.Seq})
		if got := word.Stamp(laid(c)); got != want {
			t.Errorf("Stamp(%x): %x; wanted: %x", laid(c), got, want)
		}
		if got := word.Stamp(want); got != want {
			t.Errorf("Stamp(%x), a stamp: %x", want, got)
		}
	}
	if got := word.Stamp(math.MaxUint64); got != 1<<62-1 {
		t.Errorf("Stamp of all bits: %x", got)
	}
}

// P4.2

func TestLock(t *testing.T) {
	for _, c := range all() {
		w, locked := laid(c), c
		locked.Lock = true
		if got, did := word.Lock(w); got != laid(locked) || did == c.Lock {
			t.Errorf("Lock(%x): %x, %v", w, got, did)
		}
	}
}

func TestLockOfWhatIsLocked(t *testing.T) {
	for _, w := range []uint64{lock, lock + 5, lock + absent, lock + 1<<30, math.MaxUint64} {
		if got, did := word.Lock(w); got != w || did {
			t.Errorf("Lock(%x): %x, %v", w, got, did)
		}
	}
	once, _ := word.Lock(5)
	if twice, did := word.Lock(once); twice != lock+5 || did {
		t.Errorf("locked twice: %x, %v", twice, did)
	}
	if again, did := word.Lock(word.Unlock(once)); again != lock+5 || !did {
		t.Errorf("unlocked and locked again: %x, %v", again, did)
	}
}

func TestUnlock(t *testing.T) {
	for _, c := range all() {
		w, free := laid(c), c
		free.Lock = false
		if got := word.Unlock(w); got != laid(free) {
			t.Errorf("Unlock(%x): %x", w, got)
		}
	}
}

func TestAbsent(t *testing.T) {
	for _, c := range all() {
		for _, is := range []bool{false, true} {
			w, want := laid(c), c
			want.Absent = is
			if got := word.Absent(w, is); got != laid(want) {
				t.Errorf("Absent(%x, %v): %x", w, is, got)
			}
		}
	}
}

func TestEachBit(t *testing.T) {
	for i := range 64 {
		w := uint64(1) << i
		stamp, locked := w, w|lock
		if i >= 62 {
			stamp = 0
		}
		if got := word.Stamp(w); got != stamp {
			t.Errorf("bit %d: Stamp: %x", i, got)
		}
		if got, did := word.Lock(w); got != locked || did != (i != 63) {
			t.Errorf("bit %d: Lock: %x, %v", i, got, did)
		}
		if got := word.Unlock(w); got != w&(1<<63-1) {
			t.Errorf("bit %d: Unlock: %x", i, got)
		}
		if got := word.Absent(w, true); got != w|absent {
			t.Errorf("bit %d: absent: %x", i, got)
		}
		if got := word.Absent(w, false) != 0; got == (i == 62) {
			t.Errorf("bit %d: not absent: %v", i, got)
		}
	}
}

// P4.3

// wantNext is what the document says of a last one of that epoch and sequence.
func wantNext(last api.Tid, epoch int) (uint64, api.Errno) {
	switch {
	case epoch < 0 || epoch > api.MaxEpoch:
		return 0, api.ErrArg
	case last.Epoch > epoch || last.Epoch == epoch && last.Seq >= api.MaxSeq:
		return 0, api.ErrSpent
	case last.Epoch == epoch:
		return laid(api.Tid{Epoch: epoch, Seq: last.Seq + 1}), api.OK
	}
	return laid(api.Tid{Epoch: epoch, Seq: 1}), api.OK
}

func TestNext(t *testing.T) {
	for i, c := range []struct {
		last  uint64
		epoch int
		w     uint64
		e     api.Errno
	}{
		{1<<31 + 2, 1, 1<<31 + 3, api.OK},
		{1<<31 + 2, 2, 1<<32 + 1, api.OK},
		{1<<31 + 2, 0, 0, api.ErrSpent},
		{0, 0, 1, api.OK},
		{1, 0, 2, api.OK},
		{0, 1, 1<<31 + 1, api.OK},
		{1 << 31, 1, 1<<31 + 1, api.OK},
		{1 << 31, 0, 0, api.ErrSpent},
		{1<<30 - 2, 0, 1<<30 - 1, api.OK},
		{1<<30 - 1, 0, 0, api.ErrSpent},
		{1 << 30, 0, 0, api.ErrSpent},
		{1<<31 - 1, 0, 0, api.ErrSpent},
		{1<<30 - 1, 1, 1<<31 + 1, api.OK},
		{1<<31 - 1, 1, 1<<31 + 1, api.OK},
		{0, api.MaxEpoch, 1<<62 - 1<<31 + 1, api.OK},
		{1<<62 - 1<<31, api.MaxEpoch, 1<<62 - 1<<31 + 1, api.OK},
		{1<<62 - 1<<30 - 2, api.MaxEpoch, 1<<62 - 1<<30 - 1, api.OK},
		{1<<62 - 1<<30 - 1, api.MaxEpoch, 0, api.ErrSpent},
		{1<<62 - 1, api.MaxEpoch, 0, api.ErrSpent},
		{math.MaxUint64, api.MaxEpoch, 0, api.ErrSpent},
		{math.MaxUint64, 0, 0, api.ErrSpent},
		{lock + absent + 4, 0, 5, api.OK},
		{lock + 1<<31 + 2, 2, 1<<32 + 1, api.OK},
		{absent + 1<<31 + 2, 0, 0, api.ErrSpent},
		{lock, 0, 1, api.OK},
	} {
		if w, e := word.Next(c.last, c.epoch); w != c.w || e != c.e {
			t.Errorf("%d: Next(%x, %d): %x, %d; wanted: %x, %d", i, c.last, c.epoch, w, e, c.w, c.e)
		}
	}
}

func TestNextOfEpochsBelowAtAndAbove(t *testing.T) {
	for _, last := range all() {
		for _, epoch := range slices.Concat(epochs, []int{last.Epoch - 1, last.Epoch + 1}) {
			want, wantE := wantNext(last, epoch)
			if w, e := word.Next(laid(last), epoch); w != want || e != wantE {
				t.Errorf("Next(%x, %d): %x, %d; wanted: %x, %d", laid(last), epoch, w, e, want, wantE)
			}
		}
	}
}

func TestNextOfEpochsThatAreNone(t *testing.T) {
	for _, epoch := range []int{-1, -2, -1 << 31, -1 << 33, math.MinInt, math.MinInt + 1, 1 << 31, 1<<31 + 1, 1 << 32, 1<<33 + 1, 1 << 62, math.MaxInt} {
		for _, last := range []uint64{0, 1, 1<<30 - 1, 1 << 30, 1<<31 + 2, 1<<62 - 1, lock, absent, math.MaxUint64} { // ahead of ErrSpent
			if w, e := word.Next(last, epoch); w != 0 || e != api.ErrArg {
				t.Errorf("Next(%x, %d): %x, %d", last, epoch, w, e)
			}
		}
	}
}

func TestMost(t *testing.T) {
	for i, c := range []struct {
		ws   []uint64
		want uint64
	}{
		{nil, 0},
		{[]uint64{}, 0},
		{[]uint64{0}, 0},
		{[]uint64{7}, 7},
		{[]uint64{lock + 7}, 7},
		{[]uint64{absent + 7}, 7},
		{[]uint64{lock, absent, lock + absent}, 0},
		{[]uint64{lock + absent + 1<<31 + 2}, 1<<31 + 2},
		{[]uint64{7, lock + 7, absent + 7, lock + absent + 7}, 7},
		{[]uint64{lock + 3, 5}, 5},
		{[]uint64{absent + 3, 5}, 5},
		{[]uint64{5, lock + absent + 3}, 5},
		{[]uint64{3, lock + 7, 5}, 7},
		{[]uint64{9, 3, 5}, 9},
		{[]uint64{3, 5, 9}, 9},
		{[]uint64{1<<30 - 1, 1 << 31}, 1 << 31},
		{[]uint64{1 << 31, 1<<31 - 1}, 1 << 31}, // an epoch is above each sequence, one above MaxSeq too
		{[]uint64{1<<30 - 1, 1 << 30}, 1 << 30},
		{[]uint64{1, 1<<62 - 1, 2}, 1<<62 - 1},
		{[]uint64{1, math.MaxUint64, 2}, 1<<62 - 1},
	} {
		if got := word.Most(c.ws...); got != c.want {
			t.Errorf("%d: Most(%x): %x; wanted: %x", i, c.ws, got, c.want)
		}
	}
}

func TestMostOfManyIsTheGreatestInEachPlace(t *testing.T) {
	var ws []uint64
	for i := range 100 {
		ws = append(ws, lock+uint64(i))
	}
	for i := range ws {
		was := ws[i]
		ws[i] = absent + 1000
		if got := word.Most(ws...); got != 1000 {
			t.Errorf("in place %d: %d", i, got)
		}
		ws[i] = was
	}
}

func TestMostLeavesItsArgumentsAsTheyWere(t *testing.T) {
	ws := []uint64{3, lock + 7, absent + 5, 9, lock + 11}
	was := slices.Clone(ws)
	if got := word.Most(ws[:3]...); got != 7 || !slices.Equal(ws, was) {
		t.Errorf("Most: %d, and of its arguments it made %x", got, ws)
	}
}

// P4.4

func TestPartsOfPackIsTheTid(t *testing.T) {
	for _, c := range tids(epochs, seqs) {
		w, _ := word.Pack(c)
		if p, ok := word.Parts(w); p != c || !ok {
			t.Errorf("Parts of Pack(%v): %v, %v", c, p, ok)
		}
	}
	for _, w := range scattered() {
		p, ok := word.Parts(w)
		if ok != (w>>30&1 == 0) {
			t.Errorf("Parts(%x): %v, %v", w, p, ok)
		}
		if back, e := word.Pack(p); ok && (back != w || e != api.OK) {
			t.Errorf("Pack of Parts(%x): %x, %d", w, back, e)
		}
	}
}

func TestStampsAreOrderedAsEpochsAndSequences(t *testing.T) {
	list := all()
	for _, a := range list {
		for _, b := range list {
			want := cmp.Or(cmp.Compare(a.Epoch, b.Epoch), cmp.Compare(a.Seq, b.Seq))
			if got := cmp.Compare(word.Stamp(laid(a)), word.Stamp(laid(b))); got != want {
				t.Fatalf("the stamps of %v and %v: %d; wanted: %d", a, b, got, want)
			}
		}
	}
}

func TestNextIsAboveLastAndInTheEpoch(t *testing.T) {
	words := scattered()
	for _, c := range all() {
		words = append(words, laid(c))
	}
	for _, last := range words {
		own := int(word.Stamp(last) >> 31)
		for _, epoch := range []int{0, own - 1, own, own + 1, api.MaxEpoch} {
			w, e := word.Next(last, epoch)
			if e != api.OK {
				continue
			}
			p, ok := word.Parts(w)
			if !ok || p.Lock || p.Absent || p.Epoch != epoch || p.Seq < 1 || w <= word.Stamp(last) {
				t.Errorf("Next(%x, %d): %x", last, epoch, w)
			}
			if p.Seq > 1 && w-1 > word.Stamp(last) { // the one below it would do as well
				t.Errorf("Next(%x, %d): %x, and there is a lesser one", last, epoch, w)
			}
		}
	}
}

func TestNextClimbsToTheEpochsEnd(t *testing.T) {
	last := laid(api.Tid{Epoch: 5, Seq: api.MaxSeq - 3})
	for seq := api.MaxSeq - 2; seq <= api.MaxSeq; seq++ {
		w, e := word.Next(last, 5)
		if w != laid(api.Tid{Epoch: 5, Seq: seq}) || e != api.OK {
			t.Fatalf("Next(%x, 5): %x, %d", last, w, e)
		}
		last = w
	}
	if w, e := word.Next(last, 5); w != 0 || e != api.ErrSpent {
		t.Errorf("at the epoch's end: %x, %d", w, e)
	}
	if w, e := word.Next(last, 6); w != laid(api.Tid{Epoch: 6, Seq: 1}) || e != api.OK {
		t.Errorf("behind the epoch's end: %x, %d", w, e)
	}
}
