package frame

import (
	"bytes"
	"hash/crc32"
	"iter"
	"slices"
	"testing"

	"novation/api"
)

// around is how many bytes a record has beside those that it holds.
const around = 6

// noise is a plain sequence of numbers, the same in each run.
type noise uint64

func (s *noise) next() uint32 {
	*s = *s*6364136223846793005 + 1442695040888963407
	x := uint64(*s)
	x ^= x >> 29
	x *= 0xbf58476d1ce4e5b9
	return uint32(x >> 32)
}

// bytes is n bytes of all values.
func (s *noise) bytes(n int) []byte {
	b := make([]byte, n)
	for i := range b {
		b[i] = byte(s.next())
	}
	return b
}

// modelRecord is 4.2 by the library's sum.
func modelRecord(b []byte) []byte {
	r := append([]byte{byte(len(b) / 256), byte(len(b) % 256)}, b...)
	sum := crc32.ChecksumIEEE(r)
	for range 4 {
		r = append(r, byte(sum))
		sum >>= 8
	}
	return r
}

// joined is lists of bytes, one behind the other.
func joined(l ...[]byte) []byte { return slices.Concat(l...) }

// turned is b with one bit turned, of which there are eight to a byte, the lowest first.
func turned(b []byte, bit int) []byte {
	r := bytes.Clone(b)
	r[bit/8] ^= 1 << (bit % 8)
	return r
}

// samples are bytes of all lengths that are of note.
func samples() [][]byte {
	var s noise
	l := [][]byte{nil, {}, {0}, {0xff}, {0x80}, {1}, []byte("ab"), []byte("123456789"), make([]byte, 32), bytes.Repeat([]byte{0xff}, 33)}
	for _, n := range []int{3, 4, 5, 17, 100, 254, 255, 256, 257, api.MaxRecord - 1, api.MaxRecord} {
		l = append(l, s.bytes(n))
	}
	return append(l, make([]byte, api.MaxRecord), bytes.Repeat([]byte{0xff}, api.MaxRecord))
}

// checkSame tells if what was handed in is no longer what it was.
func checkSame(t *testing.T, call string, now, before []byte) {
	t.Helper()
	if !bytes.Equal(now, before) {
		t.Errorf("R4: %s turned % x to % x", call, before, now)
	}
}

func TestSumByHand(t *testing.T) {
	for _, c := range []struct {
		b    []byte
		want uint32
	}{
		{nil, 0},
		{[]byte{}, 0},
		{[]byte{0}, 0xd202ef8d},
		{[]byte{0xff}, 0xff000000},
		{[]byte("a"), 0xe8b7be43},
		{[]byte("abc"), 0x352441c2},
		{[]byte("123456789"), 0xcbf43926},
		{[]byte{0, 0}, 0x41d912ff},
		{make([]byte, 4), 0x2144df1c},
		{bytes.Repeat([]byte{0xff}, 4), 0xffffffff},
		{make([]byte, 32), 0x190a55ad},
		{bytes.Repeat([]byte{0xff}, 32), 0xff6cab0b},
	} {
		if got := Sum(c.b); got != c.want {
			t.Errorf("4.1: Sum(% x) = %08x, want %08x", c.b, got, c.want)
		}
	}
}

func TestSumOfAllBytesAndLengths(t *testing.T) {
	var s noise
	check := func(b []byte) {
		before := bytes.Clone(b)
		if got, want := Sum(b), crc32.ChecksumIEEE(b); got != want {
			t.Errorf("4.1: Sum(% x) = %08x, want %08x", b, got, want)
		}
		checkSame(t, "Sum", b, before)
	}
	for x := range 256 {
		check([]byte{byte(x)})
		check([]byte{0, byte(x)})
		check([]byte{byte(x), 0xff, byte(x)})
	}
	for n := range 1000 {
		check(s.bytes(n))
	}
	check(s.bytes(api.MaxRoom))
}

func TestPutByHand(t *testing.T) {
	for _, c := range []struct {
		b, want []byte
	}{
		{nil, []byte{0, 0, 0xff, 0x12, 0xd9, 0x41}},
		{[]byte{}, []byte{0, 0, 0xff, 0x12, 0xd9, 0x41}},
		{[]byte{0}, []byte{0, 1, 0, 0x53, 0xe8, 0x5a, 0xe6}},
		{[]byte("ab"), []byte{0, 2, 'a', 'b', 0xe0, 0x51, 0x9a, 0xfd}},
	} {
		got, code := Put(c.b)
		if !bytes.Equal(got, c.want) || code != api.OK {
			t.Errorf("4.2: Put(% x) = % x, %d, want % x", c.b, got, code, c.want)
		}
	}
}

func TestPutOfAllLengths(t *testing.T) {
	var s noise
	for n := range api.MaxRecord + 1 {
		b := s.bytes(n)
		before := bytes.Clone(b)
		got, code := Put(b)
		if !bytes.Equal(got, modelRecord(b)) || code != api.OK {
			t.Errorf("4.2: Put of %d bytes = % x, %d", n, got, code)
		}
		checkSame(t, "Put", b, before)
	}
	got, _ := Put(make([]byte, api.MaxRecord))
	if len(got) != api.MaxRecord+around || got[0] != 1 || got[1] != 0x90 {
		t.Errorf("4.2: Put of MaxRecord bytes has %d bytes, the first % x", len(got), got[:2])
	}
}

func TestPutOfTooMany(t *testing.T) {
	for _, n := range []int{api.MaxRecord + 1, api.MaxRecord + 2, 512, 1<<16 - 1, 1 << 16, 1<<16 + 1, api.MaxRoom} {
		b := make([]byte, n)
		if got, code := Put(b); len(got) != 0 || code != api.ErrForm {
			t.Errorf("4.2: Put of %d bytes = %d bytes, %d", n, len(got), code)
		}
		checkSame(t, "Put", b, make([]byte, n))
	}
}

// checkNext holds Next against what it must tell, and what it was handed against what it was.
func checkNext(t *testing.T, b, want []byte, size int, code api.Errno) {
	t.Helper()
	before := bytes.Clone(b)
	if got, n, e := Next(b); !bytes.Equal(got, want) || n != size || e != code {
		t.Errorf("4.3: Next(% x) = % x, %d, %d, want % x, %d, %d", b, got, n, e, want, size, code)
	}
	checkSame(t, "Next", b, before)
}

func TestNextOfRecords(t *testing.T) {
	for _, b := range samples() {
		record := modelRecord(b)
		checkNext(t, record, b, len(record), api.OK)
		for _, behind := range [][]byte{{0}, {0xff}, {1, 0x91}, record, modelRecord(nil), make([]byte, 500)} {
			checkNext(t, joined(record, behind), b, len(record), api.OK)
		}
	}
}

func TestNextOfEachLength(t *testing.T) {
	// Behind the first two bytes nothing, all that a record could want, or one byte less than that.
	for n := range 1 << 16 {
		head := []byte{byte(n >> 8), byte(n)}
		want := api.ErrShort
		if n > api.MaxRecord {
			want = api.ErrBad
		}
		checkNext(t, head, nil, 0, want)
		checkNext(t, joined(head, make([]byte, min(n, api.MaxRecord)+3)), nil, 0, want)
		checkNext(t, joined(head, bytes.Repeat([]byte{7}, min(n, api.MaxRecord)+4)), nil, 0, api.ErrBad)
	}
	// Even with its sum, what says more than MaxRecord is no record.
	for _, n := range []int{api.MaxRecord + 1, api.MaxRecord + 2, 512, 1<<16 - 1} {
		checkNext(t, modelRecord(make([]byte, n)), nil, 0, api.ErrBad)
	}
}

func TestNextOfFewBytes(t *testing.T) {
	for _, c := range []struct {
		b    []byte
		code api.Errno
	}{
		{nil, api.ErrShort},
		{[]byte{}, api.ErrShort},
		{[]byte{0}, api.ErrShort},
		{[]byte{1}, api.ErrShort},
		{[]byte{2}, api.ErrShort},
		{[]byte{0xff}, api.ErrShort},
		{[]byte{0, 0}, api.ErrShort},
		{[]byte{0, 1}, api.ErrShort},
		{[]byte{1, 0x90}, api.ErrShort},
		{[]byte{1, 0x91}, api.ErrBad},
		{[]byte{2, 0}, api.ErrBad},
		{[]byte{0xff, 0xff}, api.ErrBad},
		{[]byte{0, 0, 0, 0, 0, 0}, api.ErrBad},
		// The sum, the highest byte first.
		{[]byte{0, 0, 0x41, 0xd9, 0x12, 0xff}, api.ErrBad},
		// How many, the lower byte first.
		{[]byte{2, 0, 'a', 'b', 0xe0, 0x51, 0x9a, 0xfd}, api.ErrBad},
	} {
		checkNext(t, c.b, nil, 0, c.code)
	}
}

func TestNextOfCutRecords(t *testing.T) {
	for _, b := range samples() {
		record := modelRecord(b)
		for n := range record {
			checkNext(t, record[:n], nil, 0, api.ErrShort)
			// What lies behind the cut in the same memory is not b's.
			checkNext(t, record[:n:n], nil, 0, api.ErrShort)
		}
	}
}

func TestNextOfTurnedBits(t *testing.T) {
	for _, b := range samples() {
		record := modelRecord(b)
		for bit := 16; bit < 8*len(record); bit++ {
			checkNext(t, turned(record, bit), nil, 0, api.ErrBad)
			checkNext(t, joined(turned(record, bit), record), nil, 0, api.ErrBad)
		}
		// The first two bytes say another length: what is there is too short, too long, or has another sum.
		for bit := range 16 {
			broken := joined(turned(record, bit), make([]byte, api.MaxRecord))
			checkNext(t, broken, nil, 0, api.ErrBad)
		}
	}
}

// found is a record's place, and what it holds.
type found struct {
	at   int
	held []byte
}

// modelWalk is the records of b by the model, one behind the other, and how many bytes they have.
func modelWalk(b []byte) (l []found, end int) {
	for end+2 <= len(b) {
		n := int(b[end])*256 + int(b[end+1])
		if n > api.MaxRecord || end+n+around > len(b) {
			break
		}
		held := b[end+2 : end+2+n]
		if !bytes.Equal(modelRecord(held), b[end:end+n+around]) {
			break
		}
		l = append(l, found{end, held})
		end += n + around
	}
	return l, end
}

// taken is the first n that are ranged over, or all if there are fewer.
func taken(walk iter.Seq2[int, []byte], n int) (l []found) {
	for at, held := range walk {
		l = append(l, found{at, held})
		if len(l) == n {
			break
		}
	}
	return l
}

func sameFound(a, b []found) bool {
	return slices.EqualFunc(a, b, func(x, y found) bool { return x.at == y.at && bytes.Equal(x.held, y.held) })
}

// checkWalk holds Walk, whole and left at each record, and Whole against what they must tell.
func checkWalk(t *testing.T, b []byte, want []found, end int) {
	t.Helper()
	before := bytes.Clone(b)
	walk := Walk(b)
	for n := 1; n <= len(want)+1; n++ {
		if got := taken(walk, n); !sameFound(got, want[:min(n, len(want))]) {
			t.Errorf("4.3: Walk(% x) up to %d records = %v, want %v", b, n, got, want)
		}
	}
	if got := Whole(b); got != end {
		t.Errorf("4.3: Whole(% x) = %d, want %d", b, got, end)
	}
	checkSame(t, "Walk or Whole", b, before)
}

// texts are what several records hold, an empty one and two alike among them.
func texts() [][]byte {
	return [][]byte{[]byte("a"), nil, []byte("bcd"), []byte("a"), {0, 0}, {1}, bytes.Repeat([]byte("x"), api.MaxRecord), []byte("end")}
}

// lined is the records of texts, and where they are.
func lined(texts [][]byte) (b []byte, l []found) {
	for _, text := range texts {
		l = append(l, found{len(b), text})
		b = append(b, modelRecord(text)...)
	}
	return b, l
}

func TestWalkByHand(t *testing.T) {
	one, none := modelRecord([]byte("a")), modelRecord(nil)
	checkWalk(t, nil, nil, 0)
	checkWalk(t, []byte{}, nil, 0)
	checkWalk(t, []byte{0}, nil, 0)
	checkWalk(t, []byte{0, 0}, nil, 0)
	checkWalk(t, []byte{1, 0x91}, nil, 0)
	checkWalk(t, none, []found{{0, nil}}, 6)
	checkWalk(t, one, []found{{0, []byte("a")}}, 7)
	checkWalk(t, joined(one, none), []found{{0, []byte("a")}, {7, nil}}, 13)
	checkWalk(t, joined(none, none, one), []found{{0, nil}, {6, nil}, {12, []byte("a")}}, 19)
	// A record behind what is none isn't met.
	checkWalk(t, joined([]byte{0}, one), nil, 0)
	checkWalk(t, joined(one, []byte{1, 0x91}, one), []found{{0, []byte("a")}}, 7)
}

func TestWalkOfSeveral(t *testing.T) {
	b, want := lined(texts())
	checkWalk(t, b, want, len(b))
	for n := range want {
		checkWalk(t, b[:want[n].at], want[:n], want[n].at)
	}
	b, want = lined(samples())
	checkWalk(t, b, want, len(b))
	many := make([][]byte, 300)
	b, want = lined(many)
	checkWalk(t, b, want, 300*around)
}

func TestWalkOfTornOnes(t *testing.T) {
	// The power goes at each byte: the records ahead of the cut are whole, and nothing else.
	b, all := lined(texts())
	for cut := range b {
		want := all
		for len(want) > 0 && want[len(want)-1].at+around+len(want[len(want)-1].held) > cut {
			want = want[:len(want)-1]
		}
		end := 0
		if n := len(want); n > 0 {
			end = want[n-1].at + around + len(want[n-1].held)
		}
		checkWalk(t, b[:cut], want, end)
	}
	for _, behind := range [][]byte{{0}, {0, 0}, {0, 1, 7}, {0xff, 0xff, 0xff}, {0, 0, 0, 0, 0, 0}, make([]byte, 1000)} {
		checkWalk(t, joined(b, behind), all, len(b))
	}
}

func TestWalkUpToABrokenOne(t *testing.T) {
	b, all := lined([][]byte{[]byte("a"), nil, []byte("bcd"), []byte("tail")})
	for n, x := range all {
		for bit := 8 * (x.at + 2); bit < 8*(x.at+around+len(x.held)); bit++ {
			checkWalk(t, turned(b, bit), all[:n], x.at)
		}
	}
	// Whatever is turned, it is as the model says.
	for bit := range 8 * len(b) {
		broken := turned(b, bit)
		want, end := modelWalk(broken)
		checkWalk(t, broken, want, end)
	}
}

func TestWalkOfNoise(t *testing.T) {
	var s noise
	for n := range 300 {
		b := s.bytes(n)
		want, end := modelWalk(b)
		checkWalk(t, b, want, end)
		// Small numbers, so that many lengths may be.
		for i := range b {
			b[i] %= 2
		}
		want, end = modelWalk(b)
		checkWalk(t, b, want, end)
	}
}

func TestWalkOfMaxRoom(t *testing.T) {
	record := modelRecord(bytes.Repeat([]byte{3}, api.MaxRecord))
	b := bytes.Repeat(record, api.MaxRoom/len(record)+1)[:api.MaxRoom]
	n := 0
	for at, held := range Walk(b) {
		if at != n*len(record) || len(held) != api.MaxRecord {
			t.Fatal("4.3: Walk", n, at, len(held))
		}
		n++
	}
	if want := api.MaxRoom / len(record); n != want || Whole(b) != want*len(record) {
		t.Error("4.3: Walk and Whole of MaxRoom bytes", n, Whole(b))
	}
}

func TestRecordsComeBack(t *testing.T) {
	for _, b := range samples() {
		record, _ := Put(b)
		checkNext(t, record, b, len(b)+around, api.OK)
		checkWalk(t, record, []found{{0, b}}, len(record))
	}
}

// The order of bits in which 4.4 is held is that in which 4.1 takes them: in each byte the lowest first.

// turnedBits is b with the bits of a pattern turned, from one bit on; what is behind b's end is left out.
func turnedBits(b []byte, from int, pattern uint32) []byte {
	r := bytes.Clone(b)
	for k := range 32 {
		if bit := from + k; pattern>>k&1 == 1 && bit < 8*len(b) {
			r[bit/8] ^= 1 << (bit % 8)
		}
	}
	return r
}

// checkNone holds 4.4 of one record: with this turned it is none, alone or with others behind it.
func checkNone(t *testing.T, record []byte, from int, pattern uint32) {
	t.Helper()
	broken := turnedBits(record, from, pattern)
	if bytes.Equal(broken, record) {
		return
	}
	_, _, code := Next(broken)
	if code != api.ErrBad || Whole(joined(broken, record)) != 0 {
		t.Errorf("4.4: % x with %032b turned from bit %d on is a record: %d", record, pattern, from, code)
	}
}

func TestTurnedRows(t *testing.T) {
	var s noise
	for _, b := range samples() {
		record := modelRecord(b)
		for from := 16; from < 8*len(record); from++ {
			checkNone(t, record, from, 1<<32-1)
			checkNone(t, record, from, polynomial)
			checkNone(t, record, from, 1<<31|1)
			checkNone(t, record, from, s.next()|1)
		}
	}
}

func TestTurnedRowsOfEachLengthAtEachPlace(t *testing.T) {
	var s noise
	for _, b := range [][]byte{nil, {0}, []byte("ab"), s.bytes(9)} {
		record := modelRecord(b)
		for from := 16; from < 8*len(record); from++ {
			for length := 1; length <= 32; length++ {
				all := uint32(1<<length - 1)
				ends := uint32(1) | 1<<(length-1)
				checkNone(t, record, from, all)
				checkNone(t, record, from, ends)
				checkNone(t, record, from, ends|s.next()&all)
			}
		}
	}
}

// mark is by what the sum of a record, and the sum that stands in it, differ.
func mark(record []byte) uint32 {
	end := len(record) - 4
	stands := uint32(record[end]) | uint32(record[end+1])<<8 | uint32(record[end+2])<<16 | uint32(record[end+3])<<24
	return Sum(record[:end]) ^ stands
}

// independent tells whether no choice of some of the numbers comes to 0 by exclusive or.
func independent(l []uint32) bool {
	l = slices.Clone(l)
	for i := range l {
		if l[i] == 0 {
			return false
		}
		lowest := l[i] & -l[i]
		for j := i + 1; j < len(l); j++ {
			if l[j]&lowest != 0 {
				l[j] ^= l[i]
			}
		}
	}
	return true
}

// The mark of several turned bits is the exclusive or of the marks of each: where those of 32 in a row are independent, none of the 2^32 - 1 ways to turn some of them is missed.
func TestAllTurnedRows(t *testing.T) {
	for _, b := range samples() {
		record := modelRecord(b)
		var marks []uint32
		for bit := 16; bit < 8*len(record); bit++ {
			marks = append(marks, mark(turned(record, bit)))
		}
		for from := range marks {
			row := marks[from:min(from+32, len(marks))]
			if !independent(row) {
				t.Errorf("4.4: some of the 32 bits behind bit %d of a record of %d bytes may be turned", 16+from, len(record))
			}
		}
	}
}

func TestMarksOfTurnedBitsAddUp(t *testing.T) {
	var s noise
	for _, b := range samples() {
		record := modelRecord(b)
		for range 100 {
			from, pattern := 16+int(s.next())%(8*len(record)-16), s.next()
			var want uint32
			for k := range 32 {
				if bit := from + k; pattern>>k&1 == 1 && bit < 8*len(record) {
					want ^= mark(turned(record, bit))
				}
			}
			if got := mark(turnedBits(record, from, pattern)); got != want {
				t.Errorf("4.4: the mark of %032b from bit %d on is %08x, want %08x", pattern, from, got, want)
			}
		}
	}
}

// spoil writes over bytes and their spare room.
func spoil(b []byte) {
	for i := range b[:cap(b)] {
		b[:cap(b)][i] ^= 0x55
	}
}

func TestAnswersAreNewMemory(t *testing.T) {
	for _, text := range samples() {
		before := bytes.Clone(text)
		record, _ := Put(text)
		spoil(record)
		checkSame(t, "what was done to Put's answer", text, before)
		record, _ = Put(text)
		if !bytes.Equal(record, modelRecord(text)) {
			t.Errorf("R4: Put(% x) hangs on what was done to an answer", text)
		}
		b := joined(record, record)
		held, _, _ := Next(b)
		spoil(held)
		checkSame(t, "what was done to Next's answer", b, joined(record, record))
	}
}

func TestWalkHandsOnNewMemory(t *testing.T) {
	b, want := lined(texts())
	before := bytes.Clone(b)
	walk := Walk(b)
	for range 2 {
		n := 0
		var last []byte
		for at, held := range walk {
			if at != want[n].at || !bytes.Equal(held, want[n].held) {
				t.Errorf("R4: Walk hands on % x at %d, want %v", held, at, want[n])
			}
			spoil(held)
			spoil(last)
			last = held
			n++
		}
		if n != len(want) {
			t.Error("R4: Walk met", n, "records, want", len(want))
		}
		checkSame(t, "what was done to what Walk hands on", b, before)
	}
}

func TestWalkKeepsNothing(t *testing.T) {
	b, want := lined(texts())
	walk := Walk(b)
	clear(b)
	if got := taken(walk, -1); !sameFound(got, want) {
		t.Errorf("R4: Walk hangs on what became of its bytes: %v", got)
	}
	b, _ = lined(texts())
	var got []found
	for at, held := range Walk(b) {
		got = append(got, found{at, held})
		clear(b)
	}
	if !sameFound(got, want) {
		t.Errorf("R4: Walk hangs on what becomes of its bytes meanwhile: %v", got)
	}
}

func TestWalksWithinWalks(t *testing.T) {
	b, want := lined(texts())
	walk := Walk(b)
	var outer []found
	for at, held := range walk {
		outer = append(outer, found{at, held})
		if inner := taken(walk, -1); !sameFound(inner, want) {
			t.Errorf("4.3: Walk within Walk = %v", inner)
		}
	}
	if !sameFound(outer, want) {
		t.Errorf("4.3: Walk around Walk = %v", outer)
	}
}
