package event

import (
	"bytes"
	"math"
	"math/big"
	"slices"
	"testing"

	"novation/api"
)

// noise is a plain sequence of numbers, the same in each run.
type noise uint64

func (s *noise) next() uint32 {
	*s = *s*6364136223846793005 + 1442695040888963407
	x := uint64(*s)
	x ^= x >> 29
	x *= 0xbf58476d1ce4e5b9
	return uint32(x >> 32)
}

// below is a number from 0 on that is less than n.
func (s *noise) below(n int) int { return int(s.next() % uint32(n)) }

// int64 is a number of any size and sign.
func (s *noise) int64() int64 {
	x := uint64(s.next())<<32 | uint64(s.next())
	return int64(x) >> s.below(64)
}

// within is a number from least to most.
func (s *noise) within(least, most int64) int64 {
	// Of the longest row of numbers, all that are from 1 on, the count is below 2^63.
	count := uint64(most-least) + 1
	return least + int64((uint64(s.next())<<32|uint64(s.next()))%count)
}

// bound is a field of a kind, with its bounds.
type bound struct {
	letter      byte
	least, most int64
}

// shape is a kind as the table of 6.1 has it.
type shape struct {
	kind   int
	name   string
	fields []bound
}

const (
	trillion = 1_000_000_000_000
	billion  = 1_000_000_000
	bids     = 1 << 60
	ids      = 1 << 40
)

// shapes is the table of 6.1 with its numbers written out.
func shapes() []shape {
	member, acc, inst := bound{'M', 1, 12}, bound{'A', 1, 24}, bound{'I', 0, 5}
	side, id := bound{'S', 1, 2}, bound{'D', 1, ids}
	money, price, quantity := bound{'Q', 1, math.MaxInt64}, bound{'P', 1, trillion}, bound{'Q', 1, billion}
	return []shape{
		{1, "enrol", []bound{member}},
		{2, "open", []bound{member, acc, side}},
		{3, "deposit", []bound{acc, money}},
		{4, "withdraw", []bound{acc, money}},
		{5, "fund", []bound{member, money}},
		{6, "limit", []bound{acc, {'Q', 0, trillion}}},
		{7, "order", []bound{acc, inst, side, quantity, price}},
		{8, "cancel", []bound{acc, id}},
		{9, "mark", []bound{inst, price}},
		{10, "tick", []bound{{'Q', 1, 1_000_000}}},
		{11, "suspend", []bound{member}},
		{12, "reinstate", []bound{member}},
		{13, "default", []bound{member}},
		{14, "consent", []bound{member, acc}},
		{15, "wind", nil},
		{16, "hedge", nil},
		{17, "fill", []bound{acc, id, quantity, price}},
		{18, "auction", nil},
		{19, "bid", []bound{member, id, {'P', -bids, bids}}},
		{20, "award", nil},
		{21, "allocate", nil},
		{22, "pay", []bound{member, money}},
	}
}

// letters is all fields.
func letters() []byte { return []byte("MAISDQP") }

// get is the field of a letter.
func get(e api.Event, letter byte) int64 {
	return map[byte]int64{'M': int64(e.Member), 'A': int64(e.Acc), 'I': int64(e.Inst), 'S': int64(e.Side), 'D': e.Id, 'Q': e.Q, 'P': e.P}[letter]
}

// with is an event with another field of a letter.
func with(e api.Event, letter byte, x int64) api.Event {
	l := map[byte]int64{}
	for _, other := range letters() {
		l[other] = get(e, other)
	}
	l[letter] = x
	return api.Event{Kind: e.Kind, Member: int(l['M']), Acc: int(l['A']), Inst: int(l['I']), Side: int(l['S']), Id: l['D'], Q: l['Q'], P: l['P']}
}

// field is the bounds of a letter, which are 0 if the shape doesn't have it.
func (s shape) field(letter byte) bound {
	for _, f := range s.fields {
		if f.letter == letter {
			return f
		}
	}
	return bound{letter, 0, 0}
}

// event is one of this shape, whose fields pick chooses.
func (s shape) event(pick func(bound) int64) api.Event {
	e := api.Event{Kind: s.kind}
	for _, f := range s.fields {
		e = with(e, f.letter, pick(f))
	}
	return e
}

func leastOf(f bound) int64 { return f.least }
func mostOf(f bound) int64  { return f.most }

// bases is right events of a shape: of the least values, of the greatest, of some between.
func (s shape) bases() []api.Event {
	var n noise
	between := func(f bound) int64 { return n.within(f.least, f.most) }
	return []api.Event{s.event(leastOf), s.event(mostOf), s.event(between), s.event(between), s.event(between)}
}

// modelRight is 6.1 by the table.
func modelRight(e api.Event) bool {
	for _, s := range shapes() {
		if s.kind != e.Kind {
			continue
		}
		return !slices.ContainsFunc(letters(), func(letter byte) bool {
			f, x := s.field(letter), get(e, letter)
			return x < f.least || x > f.most
		})
	}
	return false
}

// modelNumber is 6.2's bytes of n, reckoned by numbers of any size.
func modelNumber(n int64) []byte {
	x := new(big.Int).Mul(big.NewInt(2), big.NewInt(n))
	if n < 0 {
		x.Sub(x.Neg(x), big.NewInt(1))
	}
	var b []byte
	for {
		seven := new(big.Int)
		x.DivMod(x, big.NewInt(128), seven)
		if x.Sign() == 0 {
			return append(b, byte(seven.Int64()))
		}
		b = append(b, byte(128+seven.Int64()))
	}
}

// modelPut is 6.2's bytes of a right event.
func modelPut(e api.Event) []byte {
	b := []byte{byte(e.Kind)}
	for _, s := range shapes() {
		if s.kind == e.Kind {
			for _, f := range s.fields {
				b = append(b, modelNumber(get(e, f.letter))...)
			}
		}
	}
	return b
}

// looseNumber takes a number of as many bytes as say that more are behind them, whatever it comes to.
func looseNumber(b []byte) (*big.Int, []byte) {
	x, unit := new(big.Int), big.NewInt(1)
	for i, seven := range b {
		x.Add(x, new(big.Int).Mul(unit, big.NewInt(int64(seven%128))))
		unit.Mul(unit, big.NewInt(128))
		if seven < 128 {
			b = b[i+1:]
			break
		}
	}
	half := new(big.Int).Rsh(x, 1)
	if x.Bit(0) == 1 {
		half.Not(half)
	}
	return half, b
}

// modelRead guesses the one event whose bytes these may be, and tells whether they are.
func modelRead(b []byte) (api.Event, api.Errno) {
	if len(b) == 0 {
		return api.Event{}, api.ErrBad
	}
	e, rest := api.Event{Kind: int(b[0])}, b[1:]
	for _, s := range shapes() {
		if s.kind == e.Kind {
			for _, f := range s.fields {
				var x *big.Int
				x, rest = looseNumber(rest)
				e = with(e, f.letter, x.Int64())
			}
		}
	}
	if !modelRight(e) || !bytes.Equal(modelPut(e), b) {
		return api.Event{}, api.ErrBad
	}
	return e, api.OK
}

// checkEvent holds Right and Put of an event, and Read of its bytes, against the model.
func checkEvent(t *testing.T, e api.Event) {
	t.Helper()
	right := modelRight(e)
	if got := Right(e); got != right {
		t.Errorf("6.1: Right(%+v) = %v, want %v", e, got, right)
	}
	b, code := Put(e)
	if !right {
		if len(b) != 0 || code != api.ErrForm {
			t.Errorf("6.2: Put(%+v) = % x, %d, want ErrForm", e, b, code)
		}
		return
	}
	if want := modelPut(e); !bytes.Equal(b, want) || code != api.OK {
		t.Errorf("6.2: Put(%+v) = % x, %d, want % x", e, b, code, want)
	}
	if got, code := Read(b); got != e || code != api.OK {
		t.Errorf("6.3: Read(% x) = %+v, %d, want %+v", b, got, code, e)
	}
}

// checkRead holds Read against the model, and what is read against what is put.
func checkRead(t *testing.T, b []byte) {
	t.Helper()
	before := bytes.Clone(b)
	want, wantCode := modelRead(b)
	got, code := Read(b)
	if got != want || code != wantCode {
		t.Errorf("6.2: Read(% x) = %+v, %d, want %+v, %d", b, got, code, want, wantCode)
	}
	if !bytes.Equal(b, before) {
		t.Errorf("R4: Read turned % x to % x", before, b)
	}
	if code != api.OK {
		return
	}
	if again, code := Put(got); !bytes.Equal(again, b) || code != api.OK {
		t.Errorf("6.3: what is read of % x is put as % x, %d", b, again, code)
	}
}

// checkBad holds that these bytes are no event's.
func checkBad(t *testing.T, what string, b []byte) {
	t.Helper()
	if got, code := Read(b); got != (api.Event{}) || code != api.ErrBad {
		t.Errorf("6.2: Read of %s, % x = %+v, %d, want ErrBad", what, b, got, code)
	}
}

// noKinds is numbers that are no kind, some of which are one in their lowest byte or in 32 bits.
func noKinds() []int {
	return []int{0, -1, -2, -15, 23, 24, 100, 255, 256, 257, 256 + 15, 256 + 22, 1<<32 + 1, 1<<32 + 15, math.MaxInt64, math.MinInt64, math.MinInt64 + 1, math.MinInt64 + 15}
}

func TestKindsAreThoseOfTheTable(t *testing.T) {
	kinds := []int{api.EvEnrol, api.EvOpen, api.EvDeposit, api.EvWithdraw, api.EvFund, api.EvLimit, api.EvOrder, api.EvCancel, api.EvMark, api.EvTick, api.EvSuspend, api.EvReinstate, api.EvDefault, api.EvConsent, api.EvWind, api.EvHedge, api.EvFill, api.EvAuction, api.EvBid, api.EvAward, api.EvAllocate, api.EvPay}
	all := shapes()
	if len(kinds) != len(all) {
		t.Fatal("6.1: kinds", len(kinds), len(all))
	}
	for i, kind := range kinds {
		if all[i].kind != kind {
			t.Error("6.1: the kind of", all[i].name, "is", kind)
		}
	}
}

func TestFields(t *testing.T) {
	for _, c := range []struct {
		want  string
		kinds []int
	}{
		{"M", []int{api.EvEnrol, api.EvSuspend, api.EvReinstate, api.EvDefault}},
		{"MAS", []int{api.EvOpen}},
		{"AQ", []int{api.EvDeposit, api.EvWithdraw, api.EvLimit}},
		{"MQ", []int{api.EvFund, api.EvPay}},
		{"AISQP", []int{api.EvOrder}},
		{"AD", []int{api.EvCancel}},
		{"IP", []int{api.EvMark}},
		{"Q", []int{api.EvTick}},
		{"MA", []int{api.EvConsent}},
		{"ADQP", []int{api.EvFill}},
		{"MDP", []int{api.EvBid}},
		{"", []int{api.EvWind, api.EvHedge, api.EvAuction, api.EvAward, api.EvAllocate}},
		{"", noKinds()},
	} {
		for _, kind := range c.kinds {
			if got := Fields(kind); got != c.want {
				t.Errorf("6.1: Fields(%d) = %q, want %q", kind, got, c.want)
			}
		}
	}
}

func TestFieldsAreThoseOfTheTable(t *testing.T) {
	for _, s := range shapes() {
		want := ""
		for _, f := range s.fields {
			want += string(rune(f.letter))
		}
		if got := Fields(s.kind); got != want {
			t.Errorf("6.1: Fields of %s = %q, want %q", s.name, got, want)
		}
	}
	for kind := -1000; kind <= 1000; kind++ {
		if got := Fields(kind); got != "" && (kind < 1 || kind > 22) {
			t.Errorf("6.1: Fields(%d) = %q", kind, got)
		}
	}
}

func TestRightByHand(t *testing.T) {
	for _, e := range []api.Event{
		{Kind: api.EvEnrol, Member: 1},
		{Kind: api.EvSuspend, Member: api.MaxMembers},
		{Kind: api.EvOpen, Member: 2, Acc: api.MaxAccs, Side: api.House},
		{Kind: api.EvOpen, Member: 2, Acc: 1, Side: api.Client},
		{Kind: api.EvDeposit, Acc: 3, Q: math.MaxInt64},
		{Kind: api.EvLimit, Acc: 3},
		{Kind: api.EvLimit, Acc: 3, Q: api.MaxLimit},
		{Kind: api.EvOrder, Acc: 3, Inst: api.MaxInsts - 1, Side: api.Buy, Q: api.MaxQty, P: api.MaxPrice},
		{Kind: api.EvOrder, Acc: 3, Side: api.Sell, Q: 1, P: 1},
		{Kind: api.EvCancel, Acc: 3, Id: api.MaxId},
		{Kind: api.EvMark, P: api.MaxPrice},
		{Kind: api.EvTick, Q: api.MaxTicks},
		{Kind: api.EvAllocate},
		{Kind: api.EvBid, Member: 1, Id: 1},
		{Kind: api.EvBid, Member: 1, Id: 1, P: -api.MaxBid},
		{Kind: api.EvBid, Member: 1, Id: 1, P: api.MaxBid},
	} {
		if !Right(e) {
			t.Errorf("6.1: Right(%+v) = false", e)
		}
	}
	for _, e := range []api.Event{
		{},
		{Member: 1},
		{Kind: api.EvEnrol},
		{Kind: api.EvEnrol, Member: api.MaxMembers + 1},
		{Kind: api.EvEnrol, Member: 1, Q: 1},
		{Kind: api.EvOpen, Member: 1, Acc: 1},
		{Kind: api.EvOpen, Member: 1, Acc: 1, Side: 3},
		{Kind: api.EvOpen, Acc: 1, Side: api.House},
		{Kind: api.EvDeposit, Acc: 1},
		{Kind: api.EvDeposit, Q: 1},
		{Kind: api.EvLimit, Acc: 1, Q: -1},
		{Kind: api.EvOrder, Acc: 1, Q: 1, P: 1},
		{Kind: api.EvOrder, Acc: 1, Side: api.Buy, Q: 1, P: 1, Id: 1},
		{Kind: api.EvTick},
		{Kind: api.EvWind, Member: 1},
		{Kind: api.EvAllocate, P: -1},
		{Kind: api.EvBid, Member: 1, Id: 1, P: api.MaxBid + 1},
		{Kind: api.EvBid, Member: 1, Id: 1, P: -api.MaxBid - 1},
	} {
		if Right(e) {
			t.Errorf("6.1: Right(%+v) = true", e)
		}
	}
}

// edges is values of note for a field: those at its bounds, those beyond them, and those that are within them in fewer bits alone.
func edges(f bound) []int64 {
	l := []int64{0, 1, 2, 3, -1, -2, math.MinInt64, math.MinInt64 + 1, math.MaxInt64, math.MaxInt64 - 1}
	for _, x := range []int64{f.least, f.most} {
		l = append(l, x, -x, x-1, x+1, x+1<<8, x+1<<16, x+1<<32, x+math.MinInt64)
	}
	return l
}

func TestEachFieldOfEachKindAtItsEdges(t *testing.T) {
	for _, s := range shapes() {
		for _, base := range s.bases() {
			if !Right(base) {
				t.Errorf("6.1: Right(%+v) = false", base)
			}
			checkEvent(t, base)
			for _, letter := range letters() {
				f := s.field(letter)
				checkEvent(t, with(base, letter, f.least))
				checkEvent(t, with(base, letter, f.most))
				if e := with(base, letter, f.least-1); Right(e) {
					t.Errorf("6.1: Right(%+v) = true, with %c below its least value", e, letter)
				}
				if e := with(base, letter, f.most+1); Right(e) {
					t.Errorf("6.1: Right(%+v) = true, with %c above its greatest value", e, letter)
				}
				for _, x := range edges(f) {
					checkEvent(t, with(base, letter, x))
				}
			}
		}
	}
}

func TestEachFieldThatAKindDoesNotHave(t *testing.T) {
	for _, s := range shapes() {
		for _, base := range s.bases() {
			for _, letter := range letters() {
				if bytes.ContainsRune([]byte(Fields(s.kind)), rune(letter)) {
					continue
				}
				for _, x := range []int64{1, -1, 2, 1 << 8, 1 << 32, -1 << 32, math.MinInt64, math.MaxInt64} {
					e := with(base, letter, x)
					if b, code := Put(e); Right(e) || len(b) != 0 || code != api.ErrForm {
						t.Errorf("6.1: %+v of %s is right, or put: % x, %d", e, s.name, b, code)
					}
				}
			}
		}
	}
}

func TestEventsOfNoKind(t *testing.T) {
	for _, kind := range noKinds() {
		checkEvent(t, api.Event{Kind: kind})
		for _, s := range shapes() {
			for _, e := range s.bases() {
				e.Kind = kind
				if b, code := Put(e); Right(e) || len(b) != 0 || code != api.ErrForm {
					t.Errorf("6.1: %+v is right, or put: % x, %d", e, b, code)
				}
			}
		}
	}
}

func TestEventsOfNoise(t *testing.T) {
	var n noise
	for range 20_000 {
		e := api.Event{Kind: n.below(26) - 1}
		for _, letter := range letters() {
			switch n.below(3) {
			case 0:
				e = with(e, letter, int64(n.below(16)))
			case 1:
				e = with(e, letter, n.int64())
			}
		}
		checkEvent(t, e)
	}
}

func TestRightEventsOfNoise(t *testing.T) {
	var n noise
	for _, s := range shapes() {
		for range 300 {
			e := s.event(func(f bound) int64 {
				// Short numbers and long ones.
				return n.within(f.least, min(f.most, f.least|1<<n.below(62)))
			})
			if !modelRight(e) {
				t.Fatalf("%+v", e)
			}
			checkEvent(t, e)
			checkRead(t, modelPut(e))
		}
	}
}

func TestNumberByHand(t *testing.T) {
	for _, c := range []struct {
		n    int64
		want []byte
	}{
		{0, []byte{0}},
		{-1, []byte{1}},
		{1, []byte{2}},
		{-2, []byte{3}},
		{3, []byte{6}},
		{9, []byte{0x12}},
		{63, []byte{0x7e}},
		{-64, []byte{0x7f}},
		{64, []byte{0x80, 1}},
		{-65, []byte{0x81, 1}},
		{250, []byte{0xf4, 3}},
		{8191, []byte{0xfe, 0x7f}},
		{-8192, []byte{0xff, 0x7f}},
		{8192, []byte{0x80, 0x80, 1}},
		{1 << 62, []byte{0x80, 0x80, 0x80, 0x80, 0x80, 0x80, 0x80, 0x80, 0x80, 1}},
		{1<<62 - 1, []byte{0xfe, 0xff, 0xff, 0xff, 0xff, 0xff, 0xff, 0xff, 0x7f}},
		{-1 << 62, []byte{0xff, 0xff, 0xff, 0xff, 0xff, 0xff, 0xff, 0xff, 0x7f}},
		{math.MaxInt64, []byte{0xfe, 0xff, 0xff, 0xff, 0xff, 0xff, 0xff, 0xff, 0xff, 1}},
		{math.MinInt64, []byte{0xff, 0xff, 0xff, 0xff, 0xff, 0xff, 0xff, 0xff, 0xff, 1}},
	} {
		for _, ahead := range [][]byte{nil, {}, {0}, {0x80}, {7, 9}, bytes.Repeat([]byte{0xff}, 500)} {
			want := slices.Concat(ahead, c.want)
			if got := Number(ahead, c.n); !bytes.Equal(got, want) {
				t.Errorf("6.2: Number(% x, %d) = % x, want % x", ahead, c.n, got, want)
			}
		}
	}
}

// numbers is those at which another byte begins, those beside them, and any.
func numbers() []int64 {
	l := []int64{0, math.MinInt64, math.MaxInt64}
	for bit := range 63 {
		for d := int64(-2); d <= 2; d++ {
			l = append(l, 1<<bit+d, -1<<bit+d)
		}
	}
	var s noise
	for range 2000 {
		l = append(l, s.int64())
	}
	return l
}

func TestNumberIsTheModels(t *testing.T) {
	for _, n := range numbers() {
		if got, want := Number(nil, n), modelNumber(n); !bytes.Equal(got, want) {
			t.Errorf("6.2: Number(%d) = % x, want % x", n, got, want)
		}
		if got, want := Number([]byte("ab"), n), append([]byte("ab"), modelNumber(n)...); !bytes.Equal(got, want) {
			t.Errorf("6.2: Number(ab, %d) = % x, want % x", n, got, want)
		}
	}
}

func TestNumbersBehindNumbers(t *testing.T) {
	var got, want []byte
	for _, n := range numbers() {
		got, want = Number(got, n), append(want, modelNumber(n)...)
	}
	if !bytes.Equal(got, want) {
		t.Error("6.2: numbers, one behind the other")
	}
}

// spoil writes over bytes and their spare room.
func spoil(b []byte) {
	for i := range b[:cap(b)] {
		b[:cap(b)][i] ^= 0x55
	}
}

func TestNumberLeavesWhatIsHandedIn(t *testing.T) {
	for _, n := range []int64{0, 5, -1, 64, math.MinInt64} {
		for size := range 20 {
			for spare := range 20 {
				all := bytes.Repeat([]byte{0xa5}, size+spare)
				before := bytes.Clone(all)
				got := Number(all[:size], n)
				want := bytes.Clone(got)
				if !bytes.Equal(all, before) {
					t.Errorf("R4: Number of %d bytes with room for %d turned % x to % x", size, spare, before, all)
				}
				spoil(got)
				if !bytes.Equal(all, before) {
					t.Errorf("R4: the answer of Number shares memory with what is handed in: %d bytes, room for %d", size, spare)
				}
				again := Number(all[:size], n)
				spoil(all)
				if !bytes.Equal(again, want) {
					t.Errorf("R4: the answer of Number hangs on what was done to others: % x, want % x", again, want)
				}
			}
		}
	}
}

func TestPutByHand(t *testing.T) {
	for _, c := range []struct {
		e    api.Event
		want []byte
	}{
		{api.Event{Kind: api.EvTick, Q: 3}, []byte{0x0a, 0x06}},
		{api.Event{Kind: api.EvBid, Member: 2, Id: 9, P: -1}, []byte{0x13, 0x04, 0x12, 0x01}},
		{api.Event{Kind: api.EvEnrol, Member: 12}, []byte{1, 24}},
		{api.Event{Kind: api.EvOpen, Member: 3, Acc: 24, Side: api.House}, []byte{2, 6, 48, 2}},
		{api.Event{Kind: api.EvDeposit, Acc: 1, Q: 64}, []byte{3, 2, 0x80, 1}},
		{api.Event{Kind: api.EvWithdraw, Acc: 1, Q: 63}, []byte{4, 2, 0x7e}},
		{api.Event{Kind: api.EvFund, Member: 1, Q: math.MaxInt64}, []byte{5, 2, 0xfe, 0xff, 0xff, 0xff, 0xff, 0xff, 0xff, 0xff, 0xff, 1}},
		{api.Event{Kind: api.EvLimit, Acc: 5}, []byte{6, 10, 0}},
		{api.Event{Kind: api.EvOrder, Acc: 3, Side: api.Buy, Q: 10, P: 250}, []byte{7, 6, 0, 2, 20, 0xf4, 3}},
		{api.Event{Kind: api.EvCancel, Acc: 2, Id: 1}, []byte{8, 4, 2}},
		{api.Event{Kind: api.EvMark, Inst: 5, P: 32}, []byte{9, 10, 64}},
		{api.Event{Kind: api.EvSuspend, Member: 1}, []byte{11, 2}},
		{api.Event{Kind: api.EvReinstate, Member: 2}, []byte{12, 4}},
		{api.Event{Kind: api.EvDefault, Member: 3}, []byte{13, 6}},
		{api.Event{Kind: api.EvConsent, Member: 1, Acc: 2}, []byte{14, 2, 4}},
		{api.Event{Kind: api.EvWind}, []byte{15}},
		{api.Event{Kind: api.EvHedge}, []byte{16}},
		{api.Event{Kind: api.EvFill, Acc: 1, Id: 2, Q: 3, P: 4}, []byte{17, 2, 4, 6, 8}},
		{api.Event{Kind: api.EvAuction}, []byte{18}},
		{api.Event{Kind: api.EvBid, Member: 1, Id: 1, P: -api.MaxBid}, []byte{19, 2, 2, 0xff, 0xff, 0xff, 0xff, 0xff, 0xff, 0xff, 0xff, 0x1f}},
		{api.Event{Kind: api.EvAward}, []byte{20}},
		{api.Event{Kind: api.EvAllocate}, []byte{21}},
		{api.Event{Kind: api.EvPay, Member: 4, Q: 1}, []byte{22, 8, 2}},
	} {
		if got, code := Put(c.e); !bytes.Equal(got, c.want) || code != api.OK {
			t.Errorf("6.2: Put(%+v) = % x, %d, want % x", c.e, got, code, c.want)
		}
		if got, code := Read(c.want); got != c.e || code != api.OK {
			t.Errorf("6.2: Read(% x) = %+v, %d, want %+v", c.want, got, code, c.e)
		}
	}
}

func TestPutFitsIntoARecord(t *testing.T) {
	for _, s := range shapes() {
		for _, e := range s.bases() {
			if b, code := Put(e); code != api.OK || len(b) == 0 || len(b) > api.MaxRecord {
				t.Errorf("6.2: Put(%+v) has %d bytes, %d", e, len(b), code)
			}
		}
	}
}

func TestPutAnswersNewMemory(t *testing.T) {
	for _, s := range shapes() {
		for _, e := range s.bases() {
			one, _ := Put(e)
			two, _ := Put(e)
			spoil(one)
			if want := modelPut(e); !bytes.Equal(two, want) {
				t.Errorf("R4: two answers of Put(%+v) share memory", e)
			}
			three, _ := Put(e)
			if !bytes.Equal(three, two) {
				t.Errorf("R4: Put(%+v) hangs on what was done to an answer", e)
			}
		}
	}
}

func TestReadOfNoneByHand(t *testing.T) {
	for _, c := range []struct {
		what string
		b    []byte
	}{
		{"no bytes", nil},
		{"an empty list", []byte{}},
		{"no kind", []byte{0}},
		{"the kind behind the last one", []byte{23}},
		{"a byte of ones", []byte{0xff}},
		{"a byte that is a kind with 128 more", []byte{0x80 | 15}},
		{"a kind as two bytes of a number", []byte{0x80 | 15, 0}},
		{"a kind alone", []byte{10}},
		{"a number that doesn't end", []byte{10, 0x86}},
		{"one byte more", []byte{10, 6, 0}},
		{"one byte less", []byte{7, 6, 0, 2, 20}},
		{"a byte behind a kind without fields", []byte{15, 0}},
		{"a number of a byte too much", []byte{10, 0x86, 0}},
		{"a number of two bytes too much", []byte{10, 0x86, 0x80, 0}},
		{"nought in two bytes", []byte{6, 2, 0x80, 0}},
		{"a number below its bounds", []byte{10, 0}},
		{"a number above its bounds", []byte{1, 26}},
		{"a number below 0", []byte{10, 5}},
		{"a side that is none", []byte{2, 2, 4, 6}},
		{"the bits of 3 and 2^64", []byte{10, 0x86, 0x80, 0x80, 0x80, 0x80, 0x80, 0x80, 0x80, 0x80, 2}},
		{"the bits of 3 and 2^70", []byte{10, 0x86, 0x80, 0x80, 0x80, 0x80, 0x80, 0x80, 0x80, 0x80, 0x80, 1}},
		{"the greatest int64 and 2^64", []byte{3, 2, 0xfe, 0xff, 0xff, 0xff, 0xff, 0xff, 0xff, 0xff, 0xff, 3}},
		{"the least int64", []byte{3, 2, 0xff, 0xff, 0xff, 0xff, 0xff, 0xff, 0xff, 0xff, 0xff, 1}},
		{"a number of eleven bytes", []byte{3, 2, 0xfe, 0xff, 0xff, 0xff, 0xff, 0xff, 0xff, 0xff, 0xff, 0x81, 0}},
	} {
		checkBad(t, c.what, c.b)
		checkRead(t, c.b)
	}
}

func TestReadOfOtherBytes(t *testing.T) {
	for _, s := range shapes() {
		for _, e := range s.bases() {
			b := modelPut(e)
			for n := range b {
				checkBad(t, "a front", b[:n])
			}
			for x := range 256 {
				checkBad(t, "one byte more", append(bytes.Clone(b), byte(x)))
				checkRead(t, append([]byte{byte(x)}, b...))
				for i := range b {
					other := bytes.Clone(b)
					other[i] = byte(x)
					checkRead(t, other)
				}
			}
			for i := range b {
				checkRead(t, slices.Concat(b[:i], b[i+1:]))
				checkRead(t, slices.Concat(b[:i], []byte{0x80}, b[i:]))
				checkRead(t, slices.Concat(b[:i], []byte{0}, b[i:]))
			}
			checkBad(t, "it twice", slices.Concat(b, b))
		}
	}
}

// placed is the bytes of an event in which other bytes stand for one of its fields.
func (s shape) placed(e api.Event, letter byte, number []byte) []byte {
	b := []byte{byte(s.kind)}
	for _, f := range s.fields {
		if f.letter == letter {
			b = append(b, number...)
		} else {
			b = append(b, modelNumber(get(e, f.letter))...)
		}
	}
	return b
}

// longer is a number with noughts behind it, so that it has n bytes more than it needs.
func longer(number []byte, n int) []byte {
	r := bytes.Clone(number)
	for range n {
		r[len(r)-1] |= 0x80
		r = append(r, 0)
	}
	return r
}

// beyond is the bits of a right number with one more that 64 bits don't hold.
func beyond(number []byte, bit int) []byte {
	r := bytes.Clone(number)
	for len(r) <= bit/7 {
		r[len(r)-1] |= 0x80
		r = append(r, 0)
	}
	r[bit/7] |= 1 << (bit % 7)
	return r
}

func TestReadOfNumbersThatAreNone(t *testing.T) {
	for _, s := range shapes() {
		for _, e := range s.bases() {
			for _, f := range s.fields {
				number := modelNumber(get(e, f.letter))
				if b := s.placed(e, f.letter, number); !bytes.Equal(b, modelPut(e)) {
					t.Fatalf("% x", b)
				}
				for n := 1; n <= 12; n++ {
					checkBad(t, "a number that is longer than it may be", s.placed(e, f.letter, longer(number, n)))
				}
				for bit := 64; bit < 90; bit++ {
					checkBad(t, "a number that 64 bits can't hold", s.placed(e, f.letter, beyond(number, bit)))
				}
				open := bytes.Clone(number)
				open[len(open)-1] |= 0x80
				checkRead(t, s.placed(e, f.letter, open))
				for _, n := range []int{8, 9, 10, 11, 100, 1000} {
					checkBad(t, "a number that doesn't end", s.placed(e, f.letter, bytes.Repeat([]byte{0xff}, n)))
					checkBad(t, "noughts that don't end", s.placed(e, f.letter, bytes.Repeat([]byte{0x80}, n)))
				}
				checkBad(t, "no number", s.placed(e, f.letter, nil))
			}
		}
	}
}

func TestReadOfNumbersBeyondTheirBounds(t *testing.T) {
	for _, s := range shapes() {
		for _, e := range s.bases() {
			for _, f := range s.fields {
				for _, x := range append(edges(f), f.least-1, f.most+1) {
					b := s.placed(e, f.letter, modelNumber(x))
					if x < f.least || x > f.most {
						checkBad(t, "a number beyond its bounds", b)
					} else if got, code := Read(b); got != with(e, f.letter, x) || code != api.OK {
						t.Errorf("6.2: Read(% x) = %+v, %d", b, got, code)
					}
				}
			}
		}
	}
}

func TestReadOfAllShortOnes(t *testing.T) {
	checkRead(t, nil)
	found := map[int]int{}
	count := func(b []byte) {
		checkRead(t, b)
		if e, code := Read(b); code == api.OK {
			found[e.Kind]++
		}
	}
	for x := range 256 {
		count([]byte{byte(x)})
		for y := range 256 {
			count([]byte{byte(x), byte(y)})
		}
	}
	// In two bytes at most: members from 1 to 12, ticks from 1 to 63, and what has no fields.
	want := map[int]int{api.EvEnrol: 12, api.EvSuspend: 12, api.EvReinstate: 12, api.EvDefault: 12, api.EvTick: 63, api.EvWind: 1, api.EvHedge: 1, api.EvAuction: 1, api.EvAward: 1, api.EvAllocate: 1}
	for kind := range 256 {
		if found[kind] != want[kind] {
			t.Errorf("6.3: of kind %d %d are read, want %d", kind, found[kind], want[kind])
		}
	}
}

func TestReadOfNoise(t *testing.T) {
	var n noise
	for range 30_000 {
		b := make([]byte, n.below(14))
		for i := range b {
			b[i] = byte(n.next())
			if n.below(2) == 0 {
				b[i] %= 26
			}
		}
		checkRead(t, b)
	}
	checkBad(t, "many bytes", bytes.Repeat([]byte{0xff}, api.MaxRoom))
	checkBad(t, "many bytes behind a kind", append([]byte{7}, bytes.Repeat([]byte{0x80}, api.MaxRoom)...))
	checkBad(t, "many bytes behind an event", append([]byte{10, 6}, make([]byte, api.MaxRoom)...))
}

func TestBytesOfAnEventAreItsOwn(t *testing.T) {
	seen := map[string]api.Event{}
	hold := func(e api.Event) {
		t.Helper()
		b, code := Put(e)
		if got, is := Read(b); code != api.OK || got != e || is != api.OK {
			t.Errorf("6.3: %+v is put as % x, %d, and read as %+v, %d", e, b, code, got, is)
		}
		if other, there := seen[string(b)]; there && other != e {
			t.Errorf("6.3: %+v and %+v have the same bytes", e, other)
		}
		seen[string(b)] = e
	}
	for member := 1; member <= api.MaxMembers; member++ {
		for _, kind := range []int{api.EvEnrol, api.EvSuspend, api.EvReinstate, api.EvDefault} {
			hold(api.Event{Kind: kind, Member: member})
		}
		for acc := 1; acc <= api.MaxAccs; acc++ {
			hold(api.Event{Kind: api.EvConsent, Member: member, Acc: acc})
			hold(api.Event{Kind: api.EvOpen, Member: member, Acc: acc, Side: api.House})
			hold(api.Event{Kind: api.EvOpen, Member: member, Acc: acc, Side: api.Client})
		}
	}
	var n noise
	for _, s := range shapes() {
		hold(s.event(leastOf))
		hold(s.event(mostOf))
		for range 200 {
			hold(s.event(func(f bound) int64 { return n.within(f.least, min(f.most, f.least+200)) }))
		}
	}
}
