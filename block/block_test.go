package block_test

import (
	"bytes"
	"encoding/binary"
	"hash/crc32"
	"slices"
	"strings"
	"testing"

	"cobweb/api"
	"cobweb/block"
	"cobweb/samples"
)

const maxBody = 1 << 20

func of(kind byte, body string) api.Block {
	return api.Block{Kind: kind, Body: []byte(body)}
}

// summed is a text and its check sum behind it; the sum is not that of package block.
func summed(s string) string {
	return string(binary.BigEndian.AppendUint32([]byte(s), crc32.ChecksumIEEE([]byte(s))))
}

// laid is a block's bytes.
func laid(x api.Block) string {
	head := binary.BigEndian.AppendUint32([]byte{0xCB, x.Kind}, uint32(len(x.Body)))
	return summed(string(head) + string(x.Body))
}

func laidAll(xs []api.Block) string {
	out := ""
	for _, x := range xs {
		out += laid(x)
	}
	return out
}

func same(x, y api.Block) bool {
	return x.Kind == y.Kind && bytes.Equal(x.Body, y.Body)
}

// short tells bytes, or only how many they are.
func short[T []byte | string](b T) string {
	const digits = "0123456789abcdef"
	out := ""
	for _, c := range []byte(b) {
		out += string([]byte{digits[c>>4], digits[c&15]})
		if len(out) > 120 {
			return out + ".."
		}
	}
	return out
}

func slicesOf(texts ...string) [][]byte {
	var bs [][]byte
	for _, s := range texts {
		bs = append(bs, []byte(s))
	}
	return bs
}

func wantSum(t testing.TB, want uint32, texts ...string) {
	t.Helper()
	if got := block.Sum(slicesOf(texts...)...); got != want {
		t.Fatalf("Sum(%q): %08x; wanted: %08x", texts, got, want)
	}
}

// wantPack: Pack and Size of blocks that may be packed.
func wantPack(t testing.TB, want string, xs ...api.Block) {
	t.Helper()
	got, e := block.Pack(xs...)
	if e != api.OK || string(got) != want {
		t.Fatalf("Pack: %s, %d; wanted: %s", short(got), e, short(want))
	}
	if n := block.Size(xs...); n != len(want) {
		t.Fatalf("Size of %s: %d; wanted: %d", short(want), n, len(want))
	}
}

func wantTake(t testing.TB, b string, want api.Block, bytes int) {
	t.Helper()
	x, n, e := block.Take([]byte(b))
	if e != api.OK || n != bytes || !same(x, want) {
		t.Fatalf("Take(%s): kind %d, %s, %d, %d; wanted: kind %d, %s, %d", short(b), x.Kind, short(x.Body), n, e, want.Kind, short(want.Body), bytes)
	}
}

func wantNone(t testing.TB, b string, want api.Errno) {
	t.Helper()
	x, n, e := block.Take([]byte(b))
	if e != want || n != 0 || x.Kind != 0 || len(x.Body) != 0 {
		t.Fatalf("Take(%s): kind %d, %s, %d, %d; wanted: %d, and nothing beside it", short(b), x.Kind, short(x.Body), n, e, want)
	}
}

func wantScan(t testing.TB, b string, bytes int, want ...api.Block) {
	t.Helper()
	xs, n := block.Scan([]byte(b))
	if n != bytes || !slices.EqualFunc(xs, want, same) {
		t.Fatalf("Scan(%s): %d blocks, %d; wanted: %d, %d", short(b), len(xs), n, len(want), bytes)
	}
}

// P8.1

// plainSum is the check sum as the document tells it, bit by bit.
func plainSum(s string) uint32 {
	register := uint32(0xFFFFFFFF)
	for i := range len(s) {
		register ^= uint32(s[i])
		for range 8 {
			left := register & 1
			register >>= 1
			if left == 1 {
				register ^= 0xEDB88320
			}
		}
	}
	return ^register
}

func TestKnownSums(t *testing.T) {
	wantSum(t, 0xCBF43926, "123456789") // the document's example
	wantSum(t, 0xE8B7BE43, "a")
	wantSum(t, 0x352441C2, "abc")
	wantSum(t, 0xD202EF8D, "\x00")
	wantSum(t, 0xFF000000, "\xff")
	wantSum(t, 0x2144DF1C, "\x00\x00\x00\x00")
	wantSum(t, 0xFFFFFFFF, "\xff\xff\xff\xff")
	wantSum(t, 0x414FA339, "The quick brown fox jumps over the lazy dog")
}

func TestSumOfNothing(t *testing.T) {
	for _, bs := range [][][]byte{nil, {}, {nil}, {{}}, {nil, nil}, {{}, nil, {}}} {
		if got := block.Sum(bs...); got != 0 {
			t.Errorf("Sum(%q): %08x", bs, got)
		}
	}
}

func TestSumOfEachOneAndEachTwoBytes(t *testing.T) {
	for i := range 256 {
		s := string([]byte{byte(i)})
		wantSum(t, plainSum(s), s)
		for j := range 256 {
			s := string([]byte{byte(i), byte(j)})
			wantSum(t, plainSum(s), s)
		}
	}
}

func TestSumOfSeveralSlicesIsThatOfAllOfThem(t *testing.T) {
	for _, s := range []string{"", "a", "123456789", "\x00\x00\x00", "\xff\xff\xff\xff\xff", "\xcb\x07\x00\x00\x00\x01a"} {
		want := plainSum(s)
		for _, texts := range samples.Cuttings(s) {
			wantSum(t, want, texts...)
		}
		wantSum(t, want, strings.Split(s, "")...)
	}
	one := []byte("ab")
	if got := block.Sum(one, one[1:], one, nil, one[:1]); got != plainSum("abbaba") {
		t.Errorf("Sum of one slice several times: %08x", got)
	}
	wantSum(t, plainSum("ba"), "b", "a") // and in no other order
}

func TestLongSums(t *testing.T) {
	roll := samples.Dice(8)
	for _, size := range []int{3, 15, 16, 17, 255, 256, 257, 1000, 65535, 65536, 1 << 20, 1<<20 + 1} {
		b := make([]byte, size)
		for i := range b {
			b[i] = byte(roll(256))
		}
		cut := roll(size)
		if got, want := block.Sum(b[:cut], b[cut:]), crc32.ChecksumIEEE(b); got != want {
			t.Errorf("Sum of %d bytes: %08x; wanted: %08x", size, got, want)
		}
	}
}

func TestTheDocumentsBlock(t *testing.T) {
	b, e := block.Pack(of(7, "a"))
	if e != api.OK || len(b) != 11 || string(b[:7]) != "\xcb\x07\x00\x00\x00\x01a" || binary.BigEndian.Uint32(b[7:]) != plainSum("\xcb\x07\x00\x00\x00\x01a") {
		t.Errorf("Pack of kind 7, a: % x, %d", b, e)
	}
}

func TestPackOfNothing(t *testing.T) {
	wantPack(t, "")
	wantPack(t, "", []api.Block{}...)
}

func TestPackOfAnEmptyBody(t *testing.T) {
	for _, body := range [][]byte{nil, {}} {
		wantPack(t, summed("\xcb\x09\x00\x00\x00\x00"), api.Block{Kind: 9, Body: body})
	}
	wantPack(t, summed("\xcb\x00\x00\x00\x00\x00"), api.Block{})
}

func TestPackOfEachKind(t *testing.T) {
	for kind := range 256 {
		x := of(byte(kind), "body")
		b := summed("\xcb" + string([]byte{byte(kind)}) + "\x00\x00\x00\x04body")
		wantPack(t, b, x)
		wantTake(t, b, x, 14)
		wantScan(t, b, 14, x)
	}
}

func TestPackOfEachByte(t *testing.T) {
	all := make([]byte, 256)
	for i := range all {
		all[i] = byte(i)
		x := of(1, string(all[i:i+1]))
		wantPack(t, summed("\xcb\x01\x00\x00\x00\x01"+string(all[i:i+1])), x)
	}
	wantPack(t, summed("\xcb\x02\x00\x00\x01\x00"+string(all)), of(2, string(all)))
}

func TestPackOfSeveral(t *testing.T) {
	a, b, none := of(1, "aa"), of(200, "\xcb\x01\x00\x00\x00\x00"), of(3, "")
	sa, sb, sn := summed("\xcb\x01\x00\x00\x00\x02aa"), summed("\xcb\xc8\x00\x00\x00\x06\xcb\x01\x00\x00\x00\x00"), summed("\xcb\x03\x00\x00\x00\x00")
	wantPack(t, sa+sb, a, b)
	wantPack(t, sb+sa, b, a)
	wantPack(t, sa+sa+sa, a, a, a)
	wantPack(t, sn+sa+sn+sn+sb, none, a, none, none, b)
}

// lengths are those of bodies at whose ends another of the length's bytes begins, and the greatest.
func lengths() []int {
	return []int{0, 1, 2, 255, 256, 257, 65535, 65536, 65537, maxBody - 1, maxBody}
}

func TestPackOfLongBodies(t *testing.T) {
	for _, n := range lengths() {
		x := of(5, strings.Repeat("x", n))
		head := string([]byte{0xCB, 5, 0, byte(n >> 16), byte(n >> 8), byte(n)})
		b := summed(head + string(x.Body))
		wantPack(t, b, x)
		wantTake(t, b, x, n+10)
		wantPack(t, b+laid(of(1, "a"))+b, x, of(1, "a"), x)
		wantScan(t, b+laid(of(1, "a"))+b, 2*n+31, x, of(1, "a"), x)
	}
}

func TestPackOfTooLongBodies(t *testing.T) {
	long, longer, most, a := api.Block{Kind: 1, Body: make([]byte, maxBody+1)}, api.Block{Body: make([]byte, 1<<24)}, api.Block{Kind: 2, Body: make([]byte, maxBody)}, of(3, "a")
	for _, xs := range [][]api.Block{{long}, {longer}, {a, long}, {long, a}, {a, long, a}, {a, a, a, longer}, {most, long}, {long, most}, {long, longer}, {most, most, a, long}} {
		size := 0
		for _, x := range xs {
			size += 10 + len(x.Body)
		}
		if b, e := block.Pack(xs...); e != api.ErrLong || len(b) != 0 {
			t.Errorf("Pack of %d bytes, one body too long: %d bytes, %d", size, len(b), e)
		}
		if n := block.Size(xs...); n != size {
			t.Errorf("Size of what Pack refuses: %d; wanted: %d", n, size)
		}
	}
}

func TestSize(t *testing.T) {
	if n := block.Size(); n != 0 {
		t.Errorf("Size of nothing: %d", n)
	}
	if n := block.Size(api.Block{}, of(255, ""), of(1, "abc"), of(0, "\x00")); n != 44 {
		t.Errorf("Size of four: %d", n)
	}
	for _, n := range lengths() {
		if got := block.Size(api.Block{Body: make([]byte, n)}); got != n+10 {
			t.Errorf("Size of a body of %d bytes: %d", n, got)
		}
	}
}

// P8.2

func TestTakeOfABlockAloneAndWithBytesBehindIt(t *testing.T) {
	for _, x := range []api.Block{{}, of(7, "a"), of(0, "\x00"), of(255, "\xff\xff"), of(0xCB, "\xcb\xcb\xcb"), of(3, laid(of(4, "in it")))} {
		b := laid(x)
		for _, behind := range []string{"", "\x00", "\xcb", "\xcb\x01", "x", strings.Repeat("\xff", 100), b, b[:len(b)-1]} {
			wantTake(t, b+behind, x, len(b))
		}
	}
}

func TestTakeOfNoBytes(t *testing.T) {
	wantNone(t, "", api.ErrShort)
	if _, n, e := block.Take(nil); n != 0 || e != api.ErrShort {
		t.Errorf("Take of nil: %d, %d", n, e)
	}
}

func TestTakeOfAnotherFirstByte(t *testing.T) {
	b := laid(of(7, "a"))
	for i := range 256 {
		if i == 0xCB {
			continue
		}
		first := string([]byte{byte(i)})
		for n := 1; n <= len(b); n++ { // also where bytes are missing
			wantNone(t, first+b[1:n], api.ErrMagic)
		}
		wantNone(t, summed(first+b[1:7]), api.ErrMagic) // also where the sum fits
		wantNone(t, first+"\x07\xff\xff\xff\xff", api.ErrMagic)
	}
}

func TestTakeOfFewerThanSixBytes(t *testing.T) {
	for _, b := range []string{"\xcb\x07\x00\x00\x00\x01", "\xcb\xff\xff\xff\xff\xff", "\xcb\x00\x00\x10\x00\x01", "\xcb\xcb\xcb\xcb\xcb\xcb"} {
		for n := 1; n < 6; n++ {
			wantNone(t, b[:n], api.ErrShort)
		}
	}
}

func TestTakeOfTooGreatALength(t *testing.T) {
	for _, length := range []string{"\x00\x10\x00\x01", "\x00\x10\x00\xff", "\x00\x10\x01\x00", "\x00\x11\x00\x00", "\x00\x20\x00\x00", "\x01\x00\x00\x00", "\x01\x00\x00\x01", "\x7f\xff\xff\xff", "\x80\x00\x00\x00", "\x80\x00\x00\x01", "\xff\xff\xff\xf6", "\xff\xff\xff\xff"} {
		head := "\xcb\x01" + length
		for _, behind := range []string{"", "a", "aaaaa", strings.Repeat("\x00", 100)} { // bytes are missing
			wantNone(t, head+behind, api.ErrLong)
			wantNone(t, summed(head+behind), api.ErrLong)
		}
	}
	whole := "\xcb\x01\x00\x10\x00\x01" + strings.Repeat("x", maxBody+1)
	wantNone(t, summed(whole), api.ErrLong)
	wantNone(t, summed(whole)+"behind", api.ErrLong)
	wantNone(t, whole+"0000", api.ErrLong)
}

func TestTakeOfFewerBytesThanTheBlockHas(t *testing.T) {
	for _, x := range []api.Block{{}, of(7, "a"), of(255, strings.Repeat("\xff", 40))} {
		b := laid(x)
		for n := 1; n < len(b); n++ {
			wantNone(t, b[:n], api.ErrShort)
			wantNone(t, b[:1]+"\x11"+b[min(n, 2):n], api.ErrShort) // also where the sum would not fit
		}
	}
	most := laid(api.Block{Kind: 1, Body: make([]byte, maxBody)})
	for _, n := range []int{6, 7, maxBody, maxBody + 5, maxBody + 6, maxBody + 7, maxBody + 9} {
		wantNone(t, most[:n], api.ErrShort)
	}
	wantNone(t, "\xcb\x01\x00\x10\x00\x00", api.ErrShort)
	wantNone(t, "\xcb\x01\x00\x00\x00\x00000", api.ErrShort)
}

func TestTakeOfAWrongSum(t *testing.T) {
	for _, x := range []api.Block{{}, of(7, "a"), of(255, strings.Repeat("\xff", 40))} {
		b := []byte(laid(x))
		at := len(b) - 4
		sum := binary.BigEndian.Uint32(b[at:])
		for bit := range 32 {
			binary.BigEndian.PutUint32(b[at:], sum^1<<bit)
			wantNone(t, string(b), api.ErrSum)
			wantNone(t, string(b)+laid(x), api.ErrSum)
		}
		for _, other := range []uint32{^sum, sum + 1, sum - 1, sum<<8 | sum>>24, 0, 0xFFFFFFFF} {
			binary.BigEndian.PutUint32(b[at:], other)
			wantNone(t, string(b), api.ErrSum)
		}
		binary.LittleEndian.PutUint32(b[at:], sum)
		wantNone(t, string(b), api.ErrSum)
		binary.BigEndian.PutUint32(b[at:], crc32.ChecksumIEEE(b[1:at]))
		wantNone(t, string(b), api.ErrSum) // that of fewer bytes
	}
}

// plainTake is the answer that the document asks of Take.
func plainTake(b string) (api.Block, int, api.Errno) {
	switch {
	case b == "":
		return api.Block{}, 0, api.ErrShort
	case !strings.HasPrefix(b, "\xcb"):
		return api.Block{}, 0, api.ErrMagic
	case len(b) < 6:
		return api.Block{}, 0, api.ErrShort
	}
	length := int(binary.BigEndian.Uint32([]byte(b[2:6])))
	switch {
	case length > maxBody:
		return api.Block{}, 0, api.ErrLong
	case len(b) < length+10:
		return api.Block{}, 0, api.ErrShort
	case b[:length+10] != summed(b[:length+6]):
		return api.Block{}, 0, api.ErrSum
	}
	return of(b[1], b[6:length+6]), length + 10, api.OK
}

func plainScan(b string) ([]api.Block, int) {
	x, n, e := plainTake(b)
	if e != api.OK {
		return nil, 0
	}
	xs, more := plainScan(b[n:])
	return append([]api.Block{x}, xs...), n + more
}

// wantPlain: Take and Scan answer what the document asks.
func wantPlain(t testing.TB, b string) {
	t.Helper()
	if x, n, e := plainTake(b); e == api.OK {
		wantTake(t, b, x, n)
	} else {
		wantNone(t, b, e)
	}
	xs, n := plainScan(b)
	wantScan(t, b, n, xs...)
}

func TestTakeAndScanOfManyBytes(t *testing.T) {
	pieces := []string{laid(of(7, "a")), laid(of(0, "")), summed("\xcb\x01\x00\x00\x00\x02\xcb\x01"), "\xcb", "\x00", "\x01", "\x10", "\xff\xff\xff", laid(of(7, "b"))[:10], summed("\xca\x07\x00\x00\x00\x01a")}
	for _, b := range samples.Texts(5, pieces...) {
		wantPlain(t, b)
	}
}

func TestEachLengthOfOneByte(t *testing.T) {
	for _, x := range []api.Block{{}, of(7, "a"), of(1, strings.Repeat("\x00", 300))} {
		b := laid(x) + laid(x)
		for at := 2; at < 6; at++ {
			for i := range 256 {
				wantPlain(t, b[:at]+string([]byte{byte(i)})+b[at+1:])
			}
		}
	}
}

func TestScanOfNothing(t *testing.T) {
	wantScan(t, "", 0)
	if xs, n := block.Scan(nil); len(xs) != 0 || n != 0 {
		t.Errorf("Scan of nil: %v, %d", xs, n)
	}
}

func TestScanOfSeveral(t *testing.T) {
	xs := []api.Block{of(1, "a"), {}, of(255, strings.Repeat("x", 1000)), of(0xCB, "\xcb"), of(1, "a")}
	for n := range len(xs) + 1 {
		b := laidAll(xs[:n])
		wantScan(t, b, len(b), xs[:n]...)
	}
	many := slices.Repeat([]api.Block{of(3, "many")}, 2000)
	wantScan(t, strings.Repeat(laid(of(3, "many")), 2000), 28000, many...)
}

func TestScanEndsAtTheFirstError(t *testing.T) {
	a, b := of(1, "aa"), of(2, "")
	good := laid(a) + laid(b)
	wrong := []byte(laid(b))
	wrong[9]++
	for _, bad := range []string{"\x00", "a", "\xcb", "\xcb\x01\x00\x00\x00\x01", "\xcb\x01\x00\x10\x00\x01", "\xcb\x01\xff\xff\xff\xff", string(wrong), "\x00" + laid(b)} {
		for _, behind := range []string{"", good, strings.Repeat("\x00", 20)} { // what stands behind is nobody's
			if bad[0] == 0xCB && len(bad) < 6 && behind != "" {
				continue
			}
			wantScan(t, bad+behind, 0)
			wantScan(t, good+bad+behind, len(good), a, b)
			wantScan(t, good+good+bad+behind, 2*len(good), a, b, a, b)
		}
	}
}

// P8.3

func TestScanOfBlocksCutAnywhere(t *testing.T) {
	roll := samples.Dice(3)
	for range 30 {
		var xs []api.Block
		for range roll(7) {
			body := make([]byte, roll(4)*roll(12))
			for i := range body {
				body[i] = byte(roll(3) * 0xCB)
			}
			xs = append(xs, api.Block{Kind: byte(roll(256)), Body: body})
		}
		b, e := block.Pack(xs...)
		if e != api.OK || string(b) != laidAll(xs) {
			t.Fatalf("Pack: %s, %d", short(b), e)
		}
		whole := 0
		for n := range len(b) + 1 {
			if whole < len(xs) && n == block.Size(xs[:whole+1]...) {
				whole++
			}
			wantScan(t, string(b[:n]), block.Size(xs[:whole]...), xs[:whole]...)
		}
		if whole != len(xs) {
			t.Fatalf("%d of %d blocks lie in all of their bytes", whole, len(xs))
		}
	}
}

func TestABlockOfWhichAByteIsAnotherOneIsntTaken(t *testing.T) {
	ahead, behind := of(1, "ahead"), of(2, "behind")
	for _, x := range []api.Block{{}, of(7, "a"), of(0xCB, "\xcb\x00\x00\x00"), of(255, strings.Repeat("\xff", 20))} {
		whole := laid(x)
		for at := range whole {
			if at >= 2 && at < 6 { // the length
				continue
			}
			want := api.ErrSum
			if at == 0 {
				want = api.ErrMagic
			}
			for turn := 1; turn < 256; turn++ {
				bad := []byte(whole)
				bad[at] ^= byte(turn)
				wantNone(t, string(bad), want)
				wantScan(t, laid(ahead)+string(bad)+laid(behind), 15, ahead)
			}
		}
	}
}

func TestALongBlockOfWhichAByteIsAnotherOneIsntTaken(t *testing.T) {
	b := []byte(laid(api.Block{Kind: 9, Body: make([]byte, maxBody)}))
	for _, at := range []int{1, 6, 7, 1000, 65536, maxBody / 2, maxBody + 4, maxBody + 5, maxBody + 6, maxBody + 9} {
		for _, turn := range []byte{1, 0x80, 0xFF} {
			b[at] ^= turn
			if x, n, e := block.Take(b); e != api.ErrSum || n != 0 || len(x.Body) != 0 {
				t.Errorf("byte %d of a long block turned by %d: %d, %d", at, turn, n, e)
			}
			b[at] ^= turn
		}
	}
}

func TestPackAnswersNewMemory(t *testing.T) {
	xs := []api.Block{of(1, "aa"), of(2, ""), of(3, "ccc")}
	want := laidAll(xs)
	first, e := block.Pack(xs...)
	second, f := block.Pack(xs...)
	if e != api.OK || f != api.OK {
		t.Fatalf("Pack: %d, %d", e, f)
	}
	clear(first[:cap(first)])
	if string(second) != want || string(xs[0].Body) != "aa" || string(xs[2].Body) != "ccc" {
		t.Errorf("one answer of Pack was written into, and another one is %s", short(second))
	}
	clear(xs[0].Body)
	clear(xs[2].Body)
	xs[1].Kind = 9
	if string(second) != want {
		t.Errorf("what was handed in was written into, and an answer of Pack is %s", short(second))
	}
}

func TestPackChangesNothingThatIsHandedIn(t *testing.T) {
	room := []byte("aa....ccc..")
	xs := []api.Block{{Kind: 1, Body: room[:2]}, {Kind: 2}, {Kind: 3, Body: room[6:9]}, {Kind: 4, Body: room[:2]}, {Kind: 5, Body: room[:0]}}
	spare := xs[:4:5]
	wantPack(t, laidAll(xs[:4]), spare...)
	if string(room) != "aa....ccc.." || xs[1].Body != nil || xs[4].Kind != 5 || string(xs[0].Body) != "aa" || string(xs[2].Body) != "ccc" {
		t.Errorf("what was handed in was changed: %q, %v", room, xs)
	}
	block.Size(spare...)
	block.Sum(room[:2], nil, room[6:9])
	block.Pack(append(slices.Clone(xs), api.Block{Body: make([]byte, maxBody+1)})...) // refused
	if string(room) != "aa....ccc.." || xs[1].Body != nil {
		t.Errorf("what was handed in was changed: %q, %v", room, xs)
	}
}

// holding are bytes with spare room behind them.
func holding(s string) (all, b []byte) {
	all = []byte(s + "spare room")
	return all, all[:len(s)]
}

func TestTakeAnswersNewMemory(t *testing.T) {
	for _, x := range []api.Block{{Kind: 1}, of(7, "a"), of(9, "a body")} {
		text := laid(x) + laid(of(3, "behind"))
		all, b := holding(text)
		first, _, _ := block.Take(b)
		second, _, _ := block.Take(b)
		if _, _, e := block.Take(b[:len(laid(x))-1]); e != api.ErrShort { // beside an error too
			t.Fatalf("Take: %d", e)
		}
		_ = append(first.Body, "more than there is room for, or not"...)
		clear(first.Body[:cap(first.Body)])
		if string(all) != text+"spare room" {
			t.Errorf("an answer of Take was written into, and what was handed in is %q", all)
		}
		if !same(second, x) {
			t.Errorf("an answer of Take was written into, and another one is %q", second.Body)
		}
		clear(all)
		if !same(second, x) {
			t.Errorf("what was handed in was written into, and an answer of Take is %q", second.Body)
		}
	}
}

func TestScanAnswersNewMemory(t *testing.T) {
	want := []api.Block{of(1, "aa"), {Kind: 2}, of(3, "ccc"), of(1, "aa")}
	text := laidAll(want) + "\xcb\x01"
	all, b := holding(text)
	first, _ := block.Scan(b)
	second, _ := block.Scan(b)
	for i := range first { // no answer's body has another one's bytes, or its room
		_ = append(first[i].Body, "more"...)
		clear(first[i].Body[:cap(first[i].Body)])
		if !slices.EqualFunc(first[i+1:], want[i+1:], same) {
			t.Fatalf("a body of an answer of Scan was written into, and those behind it are %v", first[i+1:])
		}
	}
	clear(first[:cap(first)])
	if string(all) != text+"spare room" || !slices.EqualFunc(second, want, same) {
		t.Errorf("an answer of Scan was written into: %q, %v", all, second)
	}
	clear(all)
	if !slices.EqualFunc(second, want, same) {
		t.Errorf("what was handed in was written into, and an answer of Scan is %v", second)
	}
}

func TestNothingIsKeptFromCallToCall(t *testing.T) {
	a, b := laid(of(1, "a")), laid(of(2, "bb"))
	wantScan(t, a+b, len(a+b), of(1, "a"), of(2, "bb"))
	wantNone(t, "x"+a, api.ErrMagic)
	wantTake(t, b+a, of(2, "bb"), len(b))
	wantSum(t, plainSum("ab"), "a", "b")
	wantSum(t, plainSum("b"), "b")
	wantPack(t, a, of(1, "a"))
	wantScan(t, b, len(b), of(2, "bb"))
	wantTake(t, b+a, of(2, "bb"), len(b))
}
