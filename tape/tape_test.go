package tape

import (
	"bytes"
	"math"
	"strings"
	"testing"

	"novation/api"
)

// noise is a plain sequence of numbers, the same in each run.
type noise uint64

func (s *noise) next() uint32 {
	*s = *s*6364136223846793005 + 1442695040888963407
	x := uint64(*s)
	x ^= x >> 29
	x *= 0xbf58476d1ce4e5b9
	return uint32(x >> 32)
}

// below is a number from 0 on that is less than n.
func (s *noise) below(n int) int { return int(s.next() % uint32(n)) }

// holding is a tape with these bytes.
func holding(t *testing.T, room int, text string) *Tape {
	t.Helper()
	p := New(room)
	checkCode(t, "5.1: Append", p.Append([]byte(text)), api.OK)
	return p
}

// checkCode holds a code against the one that it must be.
func checkCode(t *testing.T, what string, got, want api.Errno) {
	t.Helper()
	if got != want {
		t.Errorf("%s = %d, want %d", what, got, want)
	}
}

// checkUp holds all that a tape which isn't down tells against these bytes.
func checkUp(t *testing.T, what string, p *Tape, want string) {
	t.Helper()
	got, code := p.Read()
	if string(got) != want || code != api.OK || p.Len() != len(want) || p.Down() {
		t.Errorf("%s: %q, %d, Len %d, Down %v, want %q", what, got, code, p.Len(), p.Down(), want)
	}
}

// checkDown holds what a tape which is down tells, and behind Wake, of a copy, its bytes.
func checkDown(t *testing.T, what string, p *Tape, want string) {
	t.Helper()
	got, code := p.Read()
	if len(got) != 0 || code != api.ErrDown || p.Len() != len(want) || !p.Down() {
		t.Errorf("%s: %q, %d, Len %d, Down %v, want it to be down with %q", what, got, code, p.Len(), p.Down(), want)
	}
	c := p.Copy()
	c.Wake()
	checkUp(t, what+", and Wake", c, want)
}

// isArmed tells, of a copy, whether the very next write is in flight.
func isArmed(p *Tape) bool { return p.Copy().Append(nil) == api.ErrDown }

func TestNewIsEmpty(t *testing.T) {
	for _, c := range []struct{ room, want int }{
		{math.MinInt, 0},
		{-1, 0},
		{0, 0},
		{1, 1},
		{7, 7},
		{api.MaxRoom - 1, api.MaxRoom - 1},
		{api.MaxRoom, api.MaxRoom},
		{api.MaxRoom + 1, api.MaxRoom},
		{math.MaxInt, api.MaxRoom},
	} {
		p := New(c.room)
		checkUp(t, "5.1: New", p, "")
		if got := p.Room(); got != c.want {
			t.Errorf("5.1: New(%d) has room %d, want %d", c.room, got, c.want)
		}
		if isArmed(p) {
			t.Errorf("5.2: New(%d) is armed", c.room)
		}
		checkCode(t, "5.1: Append of one byte more than the room", p.Append(make([]byte, c.want+1)), api.ErrRoom)
		checkCode(t, "5.1: Append of the room", p.Append(make([]byte, c.want)), api.OK)
		checkUp(t, "5.1: Append of the room", p, strings.Repeat("\x00", c.want))
		checkCode(t, "5.1: Append to a full tape", p.Append([]byte{0}), api.ErrRoom)
		checkCode(t, "5.1: Append of no bytes to a full tape", p.Append(nil), api.OK)
		if p.Room() != c.want {
			t.Errorf("5.1: the room of %d became %d", c.want, p.Room())
		}
	}
}

func TestATapeThatNobodyMadeHasNoRoom(t *testing.T) {
	p := new(Tape)
	checkCode(t, "R1: Append", p.Append([]byte("a")), api.ErrRoom)
	checkCode(t, "R1: Append of no bytes", p.Append(nil), api.OK)
	checkUp(t, "R1: a tape of zeros", p, "")
}

func TestAppendFillsTheRoom(t *testing.T) {
	const room = 6
	for n := range room + 1 {
		for m := range 2*room + 1 {
			p := holding(t, room, strings.Repeat("a", n))
			want, stands := api.OK, strings.Repeat("a", n)+strings.Repeat("b", m)
			if n+m > room {
				want, stands = api.ErrRoom, strings.Repeat("a", n)
			}
			checkCode(t, "5.1: Append", p.Append(bytes.Repeat([]byte("b"), m)), want)
			checkUp(t, "5.1: Append", p, stands)
		}
	}
}

func TestAppendOfNoBytes(t *testing.T) {
	p := holding(t, 2, "a")
	checkCode(t, "5.1: Append of nil", p.Append(nil), api.OK)
	checkCode(t, "5.1: Append of an empty list", p.Append([]byte{}), api.OK)
	checkUp(t, "5.1: Append of no bytes", p, "a")
}

func TestAppendsStandBehindEachOther(t *testing.T) {
	p, want := New(api.MaxRoom), ""
	for n := range 256 {
		b := bytes.Repeat([]byte{byte(n)}, n%7)
		checkCode(t, "5.1: Append", p.Append(b), api.OK)
		want += string(b)
		checkUp(t, "5.1: Append", p, want)
	}
}

func TestCut(t *testing.T) {
	for _, c := range []struct {
		n     int
		want  string
		code  api.Errno
		again api.Errno // of the same Cut behind it
	}{
		{math.MinInt, "abcd", api.ErrForm, api.ErrForm},
		{-1, "abcd", api.ErrForm, api.ErrForm},
		{0, "", api.OK, api.OK},
		{1, "a", api.OK, api.OK},
		{3, "abc", api.OK, api.OK},
		{4, "abcd", api.OK, api.OK},
		{5, "abcd", api.ErrForm, api.ErrForm},
		{9, "abcd", api.ErrForm, api.ErrForm},
		{10, "abcd", api.ErrForm, api.ErrForm},
		{math.MaxInt, "abcd", api.ErrForm, api.ErrForm},
	} {
		p := holding(t, 9, "abcd")
		checkCode(t, "5.1: Cut", p.Cut(c.n), c.code)
		checkUp(t, "5.1: Cut", p, c.want)
		checkCode(t, "5.1: Cut again", p.Cut(c.n), c.again)
		checkUp(t, "5.1: Cut again", p, c.want)
	}
}

func TestWhatIsCutDoesNotComeBack(t *testing.T) {
	p := holding(t, 6, "abcdef")
	checkCode(t, "5.1: Cut", p.Cut(2), api.OK)
	checkCode(t, "5.1: Cut of more than there is", p.Cut(3), api.ErrForm)
	checkCode(t, "5.1: Append of too much", p.Append([]byte("vwxyz")), api.ErrRoom)
	checkCode(t, "5.1: Append where room is again", p.Append([]byte("wxyz")), api.OK)
	checkUp(t, "5.1: Append behind a Cut", p, "abwxyz")
	checkCode(t, "5.1: Cut of all", p.Cut(0), api.OK)
	checkCode(t, "5.1: Append", p.Append([]byte("q")), api.OK)
	checkUp(t, "5.1: Append behind a Cut of all", p, "q")
}

func TestCutOfAnEmptyTape(t *testing.T) {
	for _, room := range []int{0, 3} {
		p := New(room)
		checkCode(t, "5.1: Cut at -1", p.Cut(-1), api.ErrForm)
		checkCode(t, "5.1: Cut at 0", p.Cut(0), api.OK)
		checkCode(t, "5.1: Cut at 1", p.Cut(1), api.ErrForm)
		checkUp(t, "5.1: Cut", p, "")
	}
}

// write is one write of a tape: an Append of a text, or a Cut.
type write struct {
	cut  bool
	n    int
	text string
}

func (w write) on(p *Tape) api.Errno {
	if w.cut {
		return p.Cut(w.n)
	}
	return p.Append([]byte(w.text))
}

// done is what a write that goes makes of bytes.
func (w write) done(all string) string {
	if w.cut {
		return all[:w.n]
	}
	return all + w.text
}

// front is what a write in flight leaves of bytes.
func (w write) front(all string, keep int) string {
	if w.cut && keep > 0 {
		return all[:w.n]
	}
	for i := 0; !w.cut && i < keep && i < len(w.text); i++ {
		all += w.text[i : i+1]
	}
	return all
}

func TestTheWriteInFlight(t *testing.T) {
	for _, c := range []struct {
		w    write
		keep int
		want string
	}{
		{write{text: "cde"}, math.MinInt, "ab"},
		{write{text: "cde"}, -1, "ab"},
		{write{text: "cde"}, 0, "ab"},
		{write{text: "cde"}, 1, "abc"},
		{write{text: "cde"}, 2, "abcd"},
		{write{text: "cde"}, 3, "abcde"},
		{write{text: "cde"}, 4, "abcde"},
		{write{text: "cde"}, 9, "abcde"},
		{write{text: "cde"}, math.MaxInt, "abcde"},
		{write{text: ""}, math.MinInt, "ab"},
		{write{text: ""}, 0, "ab"},
		{write{text: ""}, 1, "ab"},
		{write{text: ""}, math.MaxInt, "ab"},
		{write{cut: true, n: 1}, math.MinInt, "ab"},
		{write{cut: true, n: 1}, -1, "ab"},
		{write{cut: true, n: 1}, 0, "ab"},
		{write{cut: true, n: 1}, 1, "a"},
		{write{cut: true, n: 1}, 2, "a"},
		{write{cut: true, n: 1}, math.MaxInt, "a"},
		{write{cut: true, n: 0}, 0, "ab"},
		{write{cut: true, n: 0}, 1, ""},
		{write{cut: true, n: 2}, 0, "ab"},
		{write{cut: true, n: 2}, 1, "ab"},
	} {
		// Ahead of it none, one, or more writes go.
		for ahead := range 4 {
			p := holding(t, 5, "ab")
			p.Arm(ahead, c.keep)
			for range ahead {
				checkCode(t, "5.2: a write that goes", p.Append(nil), api.OK)
				checkUp(t, "5.2: a write that goes", p, "ab")
			}
			checkCode(t, "5.2: the write in flight", c.w.on(p), api.ErrDown)
			checkDown(t, "5.2: the write in flight", p, c.want)
		}
	}
}

func TestExample(t *testing.T) {
	p := New(10)
	checkCode(t, "5.2: Append(ab)", p.Append([]byte("ab")), api.OK)
	p.Arm(0, 1)
	checkCode(t, "5.2: Append(cd)", p.Append([]byte("cd")), api.ErrDown)
	p.Wake()
	checkUp(t, "5.2: the example", p, "abc")
}

func TestNothingArmedGoesOn(t *testing.T) {
	for _, writes := range []int{-1, -2, math.MinInt} {
		for _, keep := range []int{math.MinInt, 0, 1, math.MaxInt} {
			p := holding(t, 50, "a")
			p.Arm(writes, keep)
			for range 40 {
				checkCode(t, "5.2: a write with nothing armed", p.Append([]byte("b")), api.OK)
			}
			p.Arm(0, keep)
			p.Arm(writes, keep)
			checkCode(t, "5.2: a write when what was armed is no more", p.Cut(2), api.OK)
			checkUp(t, "5.2: nothing armed", p, "ab")
		}
	}
}

func TestManyWritesGoAhead(t *testing.T) {
	const many = 1000
	p := New(many + 9)
	p.Arm(many, 2)
	for range many {
		checkCode(t, "5.2: a write that goes", p.Append([]byte("a")), api.OK)
	}
	checkCode(t, "5.2: the write behind these", p.Append([]byte("bcd")), api.ErrDown)
	checkDown(t, "5.2: the write behind these", p, strings.Repeat("a", many)+"bc")

	p = New(many)
	p.Arm(math.MaxInt, 0)
	for range many {
		checkCode(t, "5.2: a write that goes", p.Append([]byte("a")), api.OK)
	}
	checkUp(t, "5.2: Arm of the most writes", p, strings.Repeat("a", many))
}

func TestRefusedWritesDoNotCount(t *testing.T) {
	for writes := range 4 {
		p := holding(t, 6, "ab")
		p.Arm(writes, 1)
		for n := range writes + 1 {
			for range 3 {
				checkCode(t, "5.2: Append of too much", p.Append(make([]byte, 7)), api.ErrRoom)
				checkCode(t, "5.2: Cut below 0", p.Cut(-1), api.ErrForm)
				checkCode(t, "5.2: Cut above Len", p.Cut(p.Len()+1), api.ErrForm)
				checkUp(t, "R5: a refused write", p, "ab"+strings.Repeat("c", n))
			}
			want := api.OK
			if n == writes {
				want = api.ErrDown
			}
			checkCode(t, "5.2: a write that is not refused", p.Append([]byte("c")), want)
		}
		checkDown(t, "5.2: the write in flight", p, "ab"+strings.Repeat("c", writes+1))
	}
}

func TestWhatIsNoWriteDoesNotCount(t *testing.T) {
	p := holding(t, 6, "ab")
	p.Arm(1, 1)
	for range 3 {
		checkUp(t, "5.2: armed", p, "ab")
		p.Room()
		p.Copy().Append(nil)
	}
	checkCode(t, "5.2: a write that goes", p.Cut(1), api.OK)
	for range 3 {
		checkUp(t, "5.2: armed", p, "a")
		p.Copy().Append(nil)
	}
	checkCode(t, "5.2: the write in flight", p.Append([]byte("xy")), api.ErrDown)
	checkDown(t, "5.2: the write in flight", p, "ax")
}

func TestBothKindsOfWritesCount(t *testing.T) {
	p := holding(t, 9, "ab")
	p.Arm(4, 1)
	checkCode(t, "5.2: Append", p.Append([]byte("cd")), api.OK)
	checkCode(t, "5.2: Cut", p.Cut(3), api.OK)
	checkCode(t, "5.2: Append of no bytes", p.Append(nil), api.OK)
	checkCode(t, "5.2: Cut of nothing", p.Cut(3), api.OK)
	checkCode(t, "5.2: Append in flight", p.Append([]byte("xyz")), api.ErrDown)
	checkDown(t, "5.2: Append in flight", p, "abcx")
}

func TestALaterArmCounts(t *testing.T) {
	for _, c := range []struct {
		elder, later [2]int // writes and keep
		between      int    // writes between the two
		ahead        int    // writes that go behind the later one
		want         string // behind an Append of xyz in flight
	}{
		{[2]int{0, 3}, [2]int{0, 1}, 0, 0, "x"},
		{[2]int{0, 0}, [2]int{2, 2}, 0, 2, "xy"},
		{[2]int{5, 3}, [2]int{0, 0}, 0, 0, ""},
		{[2]int{5, 3}, [2]int{1, -1}, 3, 1, ""},
		{[2]int{1, 0}, [2]int{1, 3}, 1, 1, "xyz"},
		{[2]int{-1, 0}, [2]int{1, 3}, 4, 1, "xyz"},
	} {
		p := New(9)
		p.Arm(c.elder[0], c.elder[1])
		for range c.between {
			checkCode(t, "5.2: a write behind the elder Arm", p.Append(nil), api.OK)
		}
		p.Arm(c.later[0], c.later[1])
		for range c.ahead {
			checkCode(t, "5.2: a write behind the later Arm", p.Append(nil), api.OK)
		}
		checkCode(t, "5.2: the write in flight of the later Arm", p.Append([]byte("xyz")), api.ErrDown)
		checkDown(t, "5.2: the later Arm", p, c.want)
	}
}

// fallen is a tape that is down, with these bytes.
func fallen(t *testing.T, room int, text string) *Tape {
	t.Helper()
	p := holding(t, room, text)
	p.Arm(0, 0)
	checkCode(t, "5.2: the write in flight", p.Append(nil), api.ErrDown)
	return p
}

func TestDownAnswersErrDown(t *testing.T) {
	p := fallen(t, 4, "abc")
	for range 3 {
		for _, n := range []int{math.MinInt, -1, 0, 1, 3, 4, math.MaxInt} {
			checkCode(t, "5.1: Cut, down", p.Cut(n), api.ErrDown)
		}
		for _, n := range []int{0, 1, 2, 5, api.MaxRoom + 1} {
			checkCode(t, "5.1: Append, down", p.Append(make([]byte, n)), api.ErrDown)
		}
		checkCode(t, "5.1: Append of nil, down", p.Append(nil), api.ErrDown)
		checkDown(t, "5.2: down", p, "abc")
		if p.Room() != 4 {
			t.Error("5.1: Room of a tape that is down is", p.Room())
		}
	}
	p.Wake()
	checkUp(t, "5.2: Wake", p, "abc")
}

func TestArmWhileDown(t *testing.T) {
	for _, writes := range []int{-1, 0, 1} {
		p := fallen(t, 9, "abc")
		p.Arm(writes, 9)
		checkDown(t, "5.2: Arm while it is down", p, "abc")
		checkCode(t, "5.2: Append, down", p.Append([]byte("x")), api.ErrDown)
		p.Wake()
		for range 3 {
			checkCode(t, "5.2: Append behind Wake", p.Append([]byte("d")), api.OK)
		}
		checkUp(t, "5.2: Arm while it is down", p, "abcddd")
	}
}

func TestWake(t *testing.T) {
	p := holding(t, 9, "ab")
	p.Wake()
	checkUp(t, "5.2: Wake of a tape that is up", p, "ab")
	checkCode(t, "5.2: Append", p.Append([]byte("c")), api.OK)
	for writes := range 3 {
		p.Arm(writes, 1)
		p.Wake()
		checkUp(t, "5.2: Wake of a tape that is armed", p, "abc")
		for range 4 {
			checkCode(t, "5.2: a write behind Wake", p.Append(nil), api.OK)
		}
	}
	p.Arm(0, 1)
	checkCode(t, "5.2: Cut in flight", p.Cut(1), api.ErrDown)
	p.Wake()
	p.Wake()
	checkUp(t, "5.2: Wake of a tape that is down", p, "a")
	checkCode(t, "5.2: Append behind Wake", p.Append([]byte("bcdefghi")), api.OK)
	checkCode(t, "5.2: Append to a full tape behind Wake", p.Append([]byte("j")), api.ErrRoom)
	p.Arm(0, 0)
	checkCode(t, "5.2: Arm counts again behind Wake", p.Append(nil), api.ErrDown)
	checkDown(t, "5.2: Arm counts again behind Wake", p, "abcdefghi")
}

func TestCopyOfATapeThatIsUp(t *testing.T) {
	p := holding(t, 5, "abc")
	c := p.Copy()
	checkUp(t, "5.2: Copy", c, "abc")
	if c.Room() != 5 || c == p {
		t.Error("5.2: Copy has room", c.Room())
	}
	checkCode(t, "5.2: Append to the one", p.Append([]byte("xy")), api.OK)
	checkCode(t, "5.2: Append to the other", c.Append([]byte("uv")), api.OK)
	checkCode(t, "5.2: Append of too much", c.Append([]byte("w")), api.ErrRoom)
	checkUp(t, "5.2: the one", p, "abcxy")
	checkUp(t, "5.2: the other", c, "abcuv")
	checkCode(t, "5.2: Cut of the one", p.Cut(1), api.OK)
	checkCode(t, "5.2: Append to the one", p.Append([]byte("zzzz")), api.OK)
	checkUp(t, "5.2: the one", p, "azzzz")
	checkUp(t, "5.2: the other", c, "abcuv")
	p.Arm(0, 0)
	checkCode(t, "5.2: Cut of the other", c.Cut(4), api.OK)
	checkCode(t, "5.2: Cut of the one, armed", p.Cut(4), api.ErrDown)
	checkUp(t, "5.2: the other", c, "abcu")
	checkDown(t, "5.2: the one", p, "azzzz")
}

func TestCopiesShareNoSpareRoom(t *testing.T) {
	// A tape that was cut has spare room which a copy must not write into.
	p := holding(t, 64, strings.Repeat("a", 64))
	checkCode(t, "5.2: Cut", p.Cut(8), api.OK)
	c := p.Copy()
	checkCode(t, "5.2: Append to the one", p.Append([]byte("pppp")), api.OK)
	checkCode(t, "5.2: Append to the other", c.Append([]byte("cccc")), api.OK)
	checkUp(t, "5.2: the one", p, "aaaaaaaapppp")
	checkUp(t, "5.2: the other", c, "aaaaaaaacccc")
}

func TestCopyOfATapeThatIsArmed(t *testing.T) {
	for writes := range 4 {
		for gone := range writes + 1 {
			p := holding(t, 9, "ab")
			p.Arm(writes, 2)
			for range gone {
				checkCode(t, "5.2: a write that goes", p.Append(nil), api.OK)
			}
			c := p.Copy()
			for _, one := range []*Tape{p, c} {
				for range writes - gone {
					checkCode(t, "5.2: a write that goes, of each", one.Append(nil), api.OK)
				}
				checkCode(t, "5.2: the write in flight, of each", one.Append([]byte("xyz")), api.ErrDown)
				checkDown(t, "5.2: each", one, "abxy")
			}
		}
	}
	p := holding(t, 9, "ab")
	p.Arm(0, 1)
	c := p.Copy()
	c.Wake()
	checkCode(t, "5.2: the one is still armed", p.Append(nil), api.ErrDown)
	checkUp(t, "5.2: the other is not", c, "ab")
	checkCode(t, "5.2: the other is not", c.Append(nil), api.OK)
}

func TestCopyOfATapeThatIsDown(t *testing.T) {
	p := fallen(t, 5, "abc")
	c := p.Copy()
	checkDown(t, "5.2: Copy of a tape that is down", c, "abc")
	checkCode(t, "5.2: Append to the other", c.Append(nil), api.ErrDown)
	if c.Room() != 5 {
		t.Error("5.2: Copy has room", c.Room())
	}
	p.Wake()
	checkUp(t, "5.2: the one", p, "abc")
	checkDown(t, "5.2: the other", c, "abc")
	c.Wake()
	p.Arm(0, 0)
	checkCode(t, "5.2: Cut of the one", p.Cut(0), api.ErrDown)
	checkUp(t, "5.2: the other", c, "abc")
	checkCode(t, "5.2: Append to the other", c.Append([]byte("d")), api.OK)
	checkUp(t, "5.2: the other", c, "abcd")
	checkDown(t, "5.2: the one", p, "abc")
}

// someWrites are writes of both kinds, each of which a tape with room for 20 bytes takes when all ahead of it have gone.
func someWrites() []write {
	return []write{
		{text: "abcd"},
		{text: ""},
		{text: "efg"},
		{cut: true, n: 5},
		{text: "hijklmnopqrstuv"},
		{cut: true, n: 20},
		{text: ""},
		{cut: true, n: 0},
		{text: "w"},
		{text: "xyz"},
		{cut: true, n: 2},
		{cut: true, n: 2},
		{text: "123"},
	}
}

func TestWhatWasAnsweredIsThere(t *testing.T) {
	for stop := range len(someWrites()) + 1 {
		for keep := -1; keep <= 17; keep++ {
			p, want := New(20), ""
			p.Arm(stop, keep)
			for n, w := range someWrites() {
				code := w.on(p)
				if n < stop {
					checkCode(t, "5.3: a write ahead of the power's end", code, api.OK)
					want = w.done(want)
					checkUp(t, "5.3: ahead of the power's end", p, want)
					continue
				}
				checkCode(t, "5.3: a write from the power's end on", code, api.ErrDown)
				if n == stop {
					want = w.front(want, keep)
				}
				checkDown(t, "5.3: behind the power's end", p, want)
			}
			p.Wake()
			checkUp(t, "5.3: behind Wake", p, want)
		}
	}
}

func TestTheFrontIsAFront(t *testing.T) {
	// Whatever keep is, an Append in flight leaves all that was there, and a front of what it had.
	var s noise
	for range 500 {
		there, b := string(make([]byte, s.below(30))), make([]byte, s.below(30))
		for i := range b {
			b[i] = byte(s.next())
		}
		p := holding(t, 60, there)
		p.Arm(0, int(int32(s.next()))%40)
		checkCode(t, "5.3: the write in flight", p.Append(b), api.ErrDown)
		p.Wake()
		got, _ := p.Read()
		rest, ok := strings.CutPrefix(string(got), there)
		if !ok || !strings.HasPrefix(string(b), rest) {
			t.Errorf("5.3: of %q and % x in flight % x is there", there, b, got)
		}
	}
}

// model is a tape by the document's words: at is the number of the write in flight, of those that would answer OK.
type model struct {
	all      string
	room     int
	down     bool
	seen, at int // at is below 0 if nothing is armed
	keep     int
}

func (m *model) write(w write) api.Errno {
	switch {
	case m.down:
		return api.ErrDown
	case !w.cut && len(m.all)+len(w.text) > m.room:
		return api.ErrRoom
	case w.cut && (w.n < 0 || w.n > len(m.all)):
		return api.ErrForm
	case m.seen == m.at:
		m.all, m.down, m.at = w.front(m.all, m.keep), true, -1
		return api.ErrDown
	}
	m.seen++
	m.all = w.done(m.all)
	return api.OK
}

func (m *model) arm(writes, keep int) {
	if m.down {
		return
	}
	m.at, m.keep = -1, keep
	if writes >= 0 {
		m.at = m.seen + writes
	}
}

func (m *model) wake() { m.down, m.at = false, -1 }

// check holds a tape against the model.
func (m *model) check(t *testing.T, p *Tape) {
	t.Helper()
	if m.down {
		checkDown(t, "5.2: as the model", p, m.all)
	} else {
		checkUp(t, "5.1: as the model", p, m.all)
	}
	if p.Room() != m.room {
		t.Errorf("5.1: Room %d, want %d", p.Room(), m.room)
	}
}

// someWrite is a write that a tape with so many bytes takes more often than not.
func (s *noise) someWrite(there int) write {
	if s.below(3) == 0 {
		return write{cut: true, n: s.below(there+3) - 1}
	}
	b := make([]byte, s.below(6))
	for i := range b {
		b[i] = byte(s.next())
	}
	return write{text: string(b)}
}

func TestAsTheModel(t *testing.T) {
	var s noise
	for range 300 {
		room := s.below(25)
		p, m := New(room), model{room: room, at: -1}
		for range 200 {
			switch s.below(12) {
			case 0:
				writes, keep := s.below(7)-1, s.below(9)-2
				p.Arm(writes, keep)
				m.arm(writes, keep)
			case 1:
				if m.down || s.below(5) == 0 {
					p.Wake()
					m.wake()
				}
			case 2:
				// It goes on with the copy, and what becomes of the elder one is nothing to it.
				elder := p
				p = p.Copy()
				elder.Wake()
				elder.Cut(0)
				elder.Append(bytes.Repeat([]byte("?"), room))
			default:
				w := s.someWrite(len(m.all))
				checkCode(t, "5.2: a write as the model", w.on(p), m.write(w))
			}
			m.check(t, p)
		}
	}
}

// spoil writes over bytes and their spare room.
func spoil(b []byte) {
	for i := range b[:cap(b)] {
		b[:cap(b)][i] ^= 0x55
	}
}

func TestWhatIsHandedInIsNotKept(t *testing.T) {
	// The first Append to a tape, a later one, and one in flight.
	p := New(99)
	for _, text := range []string{"abc", "defgh", strings.Repeat("i", 40)} {
		there, _ := p.Read()
		b := append(make([]byte, 0, 64), text...)
		checkCode(t, "5.1: Append", p.Append(b), api.OK)
		if string(b) != text {
			t.Errorf("R4: Append turned %q to %q", text, b)
		}
		spoil(b)
		checkUp(t, "R4: behind what was done to Append's bytes", p, string(there)+text)
	}
	checkCode(t, "5.1: Cut", p.Cut(0), api.OK)
	p.Arm(0, 2)
	b := append(make([]byte, 0, 64), "xyz"...)
	checkCode(t, "5.2: Append in flight", p.Append(b), api.ErrDown)
	if string(b) != "xyz" || string(b[:4]) != "xyz\x00" {
		t.Errorf("R4: Append turned xyz to %q", b[:4])
	}
	spoil(b)
	checkDown(t, "R4: behind what was done to Append's bytes", p, "xy")
}

func TestAppendDoesNotWriteIntoSpareRoom(t *testing.T) {
	p := New(99)
	b := append(make([]byte, 0, 64), "abc"...)
	checkCode(t, "5.1: Append", p.Append(b), api.OK)
	checkCode(t, "5.1: Append", p.Append([]byte("def")), api.OK)
	if string(b[:6]) != "abc\x00\x00\x00" {
		t.Errorf("R4: a later Append wrote into the bytes of an elder one: %q", b[:6])
	}
}

func TestWhatIsReadIsNewMemory(t *testing.T) {
	for _, text := range []string{"", "a", "abcdefgh", strings.Repeat("b", 33)} {
		p := holding(t, 99, text)
		first, _ := p.Read()
		second, _ := p.Read()
		spoil(first)
		if string(second) != text {
			t.Errorf("R4: two answers of Read share memory: %q", second)
		}
		checkUp(t, "R4: behind what was done to Read's bytes", p, text)
		// Neither does a later write turn what was read, nor what was done to its spare room a later write.
		checkCode(t, "5.1: Append", p.Append([]byte("xyz")), api.OK)
		spoil(second)
		checkUp(t, "R4: behind what was done to Read's bytes", p, text+"xyz")
		third, _ := p.Read()
		checkCode(t, "5.1: Cut", p.Cut(0), api.OK)
		checkCode(t, "5.1: Append", p.Append(bytes.Repeat([]byte("?"), len(text)+3)), api.OK)
		if string(third) != text+"xyz" {
			t.Errorf("R4: what was read became %q", third)
		}
	}
}

func TestReadOfACutTapeTellsNothingMore(t *testing.T) {
	p := holding(t, 64, strings.Repeat("s", 64))
	checkCode(t, "5.1: Cut", p.Cut(3), api.OK)
	b, _ := p.Read()
	if bytes.Contains(b[3:cap(b)], []byte("s")) {
		t.Errorf("R4: the spare room of what was read has bytes that were cut: %q", b[:cap(b)])
	}
	spoil(b)
	checkCode(t, "5.1: Append", p.Append([]byte("t")), api.OK)
	checkUp(t, "R4: behind what was done to Read's bytes", p, "ssst")
}

func TestTapesHaveNothingInCommon(t *testing.T) {
	p, q := New(9), New(9)
	p.Arm(0, 1)
	checkCode(t, "R1: Append to another", q.Append([]byte("abc")), api.OK)
	checkCode(t, "R1: Append to the armed one", p.Append([]byte("xyz")), api.ErrDown)
	checkUp(t, "R1: another", q, "abc")
	checkDown(t, "R1: the armed one", p, "x")
}

func TestNoTape(t *testing.T) {
	var p *Tape
	for _, b := range [][]byte{nil, {}, {1}, make([]byte, api.MaxRoom+1)} {
		checkCode(t, "R6: Append to no tape", p.Append(b), api.ErrNone)
	}
	for _, n := range []int{math.MinInt, -1, 0, 1, math.MaxInt} {
		checkCode(t, "R6: Cut of no tape", p.Cut(n), api.ErrNone)
		p.Arm(n, n)
		p.Wake()
	}
	b, code := p.Read()
	checkCode(t, "R6: Read of no tape", code, api.ErrNone)
	if len(b) != 0 || p.Len() != 0 || p.Room() != 0 || p.Down() {
		t.Errorf("R6: no tape: %q, Len %d, Room %d, Down %v", b, p.Len(), p.Room(), p.Down())
	}
	if c := p.Copy(); c != nil {
		t.Error("R6: Copy of no tape is one")
	}
}
