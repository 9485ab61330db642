package journal

import (
	"bytes"
	"encoding/hex"
	"hash/crc32"
	"math"
	"slices"
	"strings"
	"testing"

	"novation/api"
	"novation/event"
	"novation/plan"
	"novation/tape"
)

// noise is a plain sequence of numbers, the same in each run.
type noise uint64

func (s *noise) next() uint32 {
	*s = *s*6364136223846793005 + 1442695040888963407
	x := uint64(*s)
	x ^= x >> 29
	x *= 0xbf58476d1ce4e5b9
	return uint32(x >> 32)
}

// below is a number from 0 on that is less than n.
func (s *noise) below(n int) int { return int(s.next() % uint32(n)) }

// bytes is so many of them, of any values.
func (s *noise) bytes(n int) string {
	b := make([]byte, n)
	for i := range b {
		b[i] = byte(s.next())
	}
	return string(b)
}

const (
	trillion = 1_000_000_000_000
	billion  = 1_000_000_000
	around   = 6 // bytes of a record beside what it holds
)

// record is the record of a text, by chapter 4 and the library's sum.
func record(text string) string {
	b := append([]byte{byte(len(text) >> 8), byte(len(text))}, text...)
	sum := crc32.ChecksumIEEE(b)
	return string(append(b, byte(sum), byte(sum>>8), byte(sum>>16), byte(sum>>24)))
}

// split is what the whole records at the beginning of bytes hold, and how many bytes these have.
func split(all string) (held []string, whole int) {
	for whole+2 <= len(all) {
		n := int(all[whole])*256 + int(all[whole+1])
		end := whole + n + around
		if n > 400 || end > len(all) {
			break
		}
		text := all[whole+2 : end-4]
		if record(text) != all[whole:end] {
			break
		}
		held = append(held, text)
		whole = end
	}
	return held, whole
}

// configs is right ones: of the least values, of the greatest, and some between.
func configs() []api.Config {
	great := api.Inst{Bucket: 3, Price: trillion, Rate: billion, Slip: billion}
	return []api.Config{
		{Insts: []api.Inst{{Price: 1}}, LotSize: 1},
		{Insts: []api.Inst{great, great, great, great, great, great}, Skin: math.MaxInt64, Times: 4, Port: 1_000_000, Bid: 1_000_000, LotSize: 1 << 62, HedgeMin: math.MaxInt64},
		{Insts: []api.Inst{{Bucket: 2, Price: 5, Rate: 1}}, LotSize: 1},
		{Insts: []api.Inst{{Price: 70, Rate: 3, Slip: 9}, {Bucket: 1, Price: 100, Slip: 64}}, Skin: 1000, Times: 1, Port: 9, Bid: 8, LotSize: 50, HedgeMin: 3},
	}
}

// plain is one right config.
func plain() api.Config { return configs()[2] }

// wrongConfigs is such as aren't right.
func wrongConfigs() []api.Config {
	l := []api.Config{{}, {LotSize: 1}}
	for _, spoil := range []func(c *api.Config){
		func(c *api.Config) { c.Insts = make([]api.Inst, 7) },
		func(c *api.Config) { c.Insts = nil },
		func(c *api.Config) { c.Insts[0].Bucket = 4 },
		func(c *api.Config) { c.Insts[0].Bucket = -1 },
		func(c *api.Config) { c.Insts[0].Price = 0 },
		func(c *api.Config) { c.Insts[0].Price = trillion + 1 },
		func(c *api.Config) { c.Insts[0].Rate = -1 },
		func(c *api.Config) { c.Insts[0].Slip = billion + 1 },
		func(c *api.Config) { c.Skin = -1 },
		func(c *api.Config) { c.Times = 5 },
		func(c *api.Config) { c.Port = -1 },
		func(c *api.Config) { c.Bid = 1_000_001 },
		func(c *api.Config) { c.LotSize = 0 },
		func(c *api.Config) { c.HedgeMin = math.MinInt64 },
	} {
		c := plain()
		spoil(&c)
		l = append(l, c)
	}
	return l
}

// events is right ones of each kind: of the least values, and of the greatest.
func events() []api.Event {
	return []api.Event{
		{Kind: api.EvEnrol, Member: 1}, {Kind: api.EvEnrol, Member: 12},
		{Kind: api.EvOpen, Member: 1, Acc: 1, Side: api.House}, {Kind: api.EvOpen, Member: 12, Acc: 24, Side: api.Client},
		{Kind: api.EvDeposit, Acc: 1, Q: 1}, {Kind: api.EvDeposit, Acc: 24, Q: math.MaxInt64},
		{Kind: api.EvWithdraw, Acc: 1, Q: 1}, {Kind: api.EvWithdraw, Acc: 24, Q: math.MaxInt64},
		{Kind: api.EvFund, Member: 1, Q: 1}, {Kind: api.EvFund, Member: 12, Q: math.MaxInt64},
		{Kind: api.EvLimit, Acc: 1}, {Kind: api.EvLimit, Acc: 24, Q: trillion},
		{Kind: api.EvOrder, Acc: 1, Side: api.Buy, Q: 1, P: 1}, {Kind: api.EvOrder, Acc: 24, Inst: 5, Side: api.Sell, Q: billion, P: trillion},
		{Kind: api.EvCancel, Acc: 1, Id: 1}, {Kind: api.EvCancel, Acc: 24, Id: 1 << 40},
		{Kind: api.EvMark, P: 1}, {Kind: api.EvMark, Inst: 5, P: trillion},
		{Kind: api.EvTick, Q: 1}, {Kind: api.EvTick, Q: 1_000_000},
		{Kind: api.EvSuspend, Member: 1}, {Kind: api.EvSuspend, Member: 12},
		{Kind: api.EvReinstate, Member: 1}, {Kind: api.EvReinstate, Member: 12},
		{Kind: api.EvDefault, Member: 1}, {Kind: api.EvDefault, Member: 12},
		{Kind: api.EvConsent, Member: 1, Acc: 1}, {Kind: api.EvConsent, Member: 12, Acc: 24},
		{Kind: api.EvWind},
		{Kind: api.EvHedge},
		{Kind: api.EvFill, Acc: 1, Id: 1, Q: 1, P: 1}, {Kind: api.EvFill, Acc: 24, Id: 1 << 40, Q: billion, P: trillion},
		{Kind: api.EvAuction},
		{Kind: api.EvBid, Member: 1, Id: 1, P: -1 << 60}, {Kind: api.EvBid, Member: 12, Id: 1 << 40, P: 1 << 60},
		{Kind: api.EvAward},
		{Kind: api.EvAllocate},
		{Kind: api.EvPay, Member: 1, Q: 1}, {Kind: api.EvPay, Member: 12, Q: math.MaxInt64},
	}
}

// enrol is an event whose bytes are two.
func enrol(member int) api.Event { return api.Event{Kind: api.EvEnrol, Member: member} }

// wrongEvents is such as aren't right.
func wrongEvents() []api.Event {
	l := []api.Event{
		{}, {Member: 1}, {Kind: -1}, {Kind: 23}, {Kind: math.MinInt}, {Kind: math.MaxInt},
		enrol(0), enrol(13), enrol(-1), enrol(256 + 1),
		{Kind: api.EvDeposit, Acc: 1}, {Kind: api.EvDeposit, Acc: 25, Q: 1}, {Kind: api.EvTick, Q: 1_000_001},
		{Kind: api.EvOpen, Member: 1, Acc: 1, Side: 3}, {Kind: api.EvBid, Member: 1, Id: 1, P: 1<<60 + 1},
	}
	for _, e := range events() {
		// No kind has both of a Side and an Id.
		e.Side, e.Id = max(e.Side, 1), max(e.Id, 1)
		l = append(l, e)
	}
	return l
}

// ofConfig is the record of a right config.
func ofConfig(t *testing.T, c api.Config) string {
	t.Helper()
	b, code := plan.Put(c)
	checkCode(t, "plan.Put", code, api.OK)
	return record(string(b))
}

// ofEvent is the record of a right event.
func ofEvent(t *testing.T, e api.Event) string {
	t.Helper()
	b, code := event.Put(e)
	checkCode(t, "event.Put", code, api.OK)
	return record(string(b))
}

// ofAll is the bytes of a journal.
func ofAll(t *testing.T, c api.Config, l ...api.Event) string {
	t.Helper()
	all := ofConfig(t, c)
	for _, e := range l {
		all += ofEvent(t, e)
	}
	return all
}

// holding is a tape with these bytes.
func holding(t *testing.T, room int, all string) *tape.Tape {
	t.Helper()
	p := tape.New(room)
	checkCode(t, "tape.Append", p.Append([]byte(all)), api.OK)
	return p
}

// fallen is a tape with these bytes, which is down.
func fallen(t *testing.T, room int, all string) *tape.Tape {
	t.Helper()
	p := holding(t, room, all)
	p.Arm(0, 0)
	checkCode(t, "tape.Append", p.Append(nil), api.ErrDown)
	return p
}

func checkCode(t *testing.T, what string, got, want api.Errno) {
	t.Helper()
	if got != want {
		t.Errorf("%s = %d, want %d", what, got, want)
	}
}

// look is all that can be seen of a tape.
type look struct {
	all  string
	room int
	down bool
	left int  // so many writes go ahead of the one in flight; below 0: none is armed
	keep bool // of an armed Cut: is it done?
}

func lookOf(p *tape.Tape) look {
	l := look{room: p.Room(), down: p.Down(), left: -1}
	c := p.Copy()
	if l.down {
		c.Wake()
	}
	b, _ := c.Read()
	l.all = string(b)
	for left := range 9 {
		if c.Append(nil) == api.ErrDown {
			l.left = left
			break
		}
	}
	c = p.Copy()
	for range l.left {
		c.Append(nil)
	}
	l.keep = l.left >= 0 && c.Cut(0) == api.ErrDown && c.Len() == 0
	return l
}

// checkLook holds a tape against what it must be.
func checkLook(t *testing.T, what string, p *tape.Tape, want look) {
	t.Helper()
	if got := lookOf(p); got != want {
		t.Errorf("%s: the tape is %#v, want %#v", what, got, want)
	}
}

// checkAll holds the bytes of a tape, down or not, against what they must be.
func checkAll(t *testing.T, what string, p *tape.Tape, want string, down bool) {
	t.Helper()
	if got := lookOf(p); got.all != want || got.down != down {
		t.Errorf("%s: % x, down %v, want % x, %v", what, got.all, got.down, want, down)
	}
}

// checkOpen opens a tape twice: both times it must tell this.
func checkOpen(t *testing.T, what string, p *tape.Tape, c api.Config, l []api.Event, want api.Errno) {
	t.Helper()
	for range 2 {
		gotConfig, got, code := Open(p)
		if !plan.Same(gotConfig, c) || !slices.Equal(got, l) || code != want {
			t.Errorf("%s: Open = %v, %v, %d, want %v, %v, %d", what, gotConfig, got, code, c, l, want)
		}
	}
}

// checkOpens opens a tape that must be a journal.
func checkOpens(t *testing.T, what string, p *tape.Tape, c api.Config, l ...api.Event) {
	t.Helper()
	checkOpen(t, what, p, c, l, api.OK)
	checkAll(t, what+", and Open", p, ofAll(t, c, l...), false)
}

// checkNone opens a tape that must not be one.
func checkNone(t *testing.T, what string, p *tape.Tape, want api.Errno) {
	t.Helper()
	checkOpen(t, what, p, api.Config{}, nil, want)
}

// strange is bytes that are no journal's: no whole records, some with part of one, whole ones of other things.
func strange() []string {
	head := string([]byte{2, 0, 10, 2, 0, 0, 0, 0, 0, 2, 0})
	return []string{
		"\x00", "ab", "\xff\xff\xff", strings.Repeat("\x00", 6), strings.Repeat("x", 40),
		record(""), record("\x01\x02"), record(head)[:16], "\x00" + record(head), record(head) + "\x00",
		record(head) + record("\x01\x02")[:7], record(head) + record("\x00"), record("\x01\x02") + record(head),
	}
}

func TestTheExamples(t *testing.T) {
	p := tape.New(100)
	c := api.Config{Insts: []api.Inst{{Price: 5, Rate: 1}}, LotSize: 1}
	checkNone(t, "9: Open of an empty tape", p, api.ErrNone)
	checkCode(t, "9: Start", Start(p, c), api.OK)
	checkOpens(t, "9: Start", p, c)
}

func TestTheBytesByHand(t *testing.T) {
	p := tape.New(100)
	checkCode(t, "9.1: Start", Start(p, api.Config{Insts: []api.Inst{{Price: 5, Rate: 1}}, LotSize: 1}), api.OK)
	checkCode(t, "9.1: Add of a tick", Add(p, api.Event{Kind: api.EvTick, Q: 3}), api.OK)
	checkCode(t, "9.1: Add of a bid", Add(p, api.Event{Kind: api.EvBid, Member: 2, Id: 9, P: -1}), api.OK)
	checkCode(t, "9.1: Add of a hedge", Add(p, api.Event{Kind: api.EvHedge}), api.OK)
	b, _ := p.Read()
	got := hex.EncodeToString(b)
	want := "000b" + "02000a0200000000000200" + sumOf("000b02000a0200000000000200") +
		"0002" + "0a06" + sumOf("00020a06") +
		"0004" + "13041201" + sumOf("000413041201") +
		"0001" + "10" + sumOf("000110")
	if got != want {
		t.Errorf("9: the tape is %s, want %s", got, want)
	}
}

// sumOf is the sum of bytes, the lowest first, all told by sixteens.
func sumOf(text string) string {
	b, _ := hex.DecodeString(text)
	sum := crc32.ChecksumIEEE(b)
	return hex.EncodeToString([]byte{byte(sum), byte(sum >> 8), byte(sum >> 16), byte(sum >> 24)})
}

func TestStart(t *testing.T) {
	for _, c := range configs() {
		want := ofConfig(t, c)
		for _, room := range []int{len(want), len(want) + 1, 1000, api.MaxRoom} {
			p := tape.New(room)
			checkCode(t, "9.1: Start", Start(p, c), api.OK)
			checkAll(t, "9.1: Start", p, want, false)
			checkOpens(t, "9.1: Start", p, c)
		}
	}
}

func TestStartOfAWrongConfig(t *testing.T) {
	for _, c := range wrongConfigs() {
		for _, all := range append(strange(), "", ofConfig(t, plain()), ofAll(t, plain(), events()...)) {
			for _, p := range []*tape.Tape{holding(t, 5000, all), holding(t, len(all), all), fallen(t, 5000, all)} {
				p.Arm(0, 1)
				before := lookOf(p)
				checkCode(t, "9.1: Start of a wrong config", Start(p, c), api.ErrForm)
				checkLook(t, "R5: Start of a wrong config", p, before)
			}
		}
		checkCode(t, "R7: Start of a wrong config without a tape", Start(nil, c), api.ErrForm)
	}
}

func TestStartOfATapeThatIsDown(t *testing.T) {
	for _, all := range append(strange(), "", ofConfig(t, plain()), ofAll(t, plain(), events()...)) {
		for _, room := range []int{len(all), 5000} {
			p := fallen(t, room, all)
			before := lookOf(p)
			checkCode(t, "9.1: Start of a tape that is down", Start(p, plain()), api.ErrDown)
			checkLook(t, "R5: Start of a tape that is down", p, before)
		}
	}
}

func TestStartOfATapeWithBytes(t *testing.T) {
	for _, all := range append(strange(), ofConfig(t, plain()), ofAll(t, plain(), events()...)) {
		for _, p := range []*tape.Tape{holding(t, 5000, all), holding(t, len(all), all)} {
			for _, left := range []int{-1, 0, 1} {
				p.Arm(left, 1)
				before := lookOf(p)
				checkCode(t, "9.1: Start of a tape with bytes", Start(p, plain()), api.ErrThere)
				checkLook(t, "R5: Start of a tape with bytes", p, before)
			}
		}
	}
	p := tape.New(1000)
	checkCode(t, "9.1: Start", Start(p, plain()), api.OK)
	checkCode(t, "9.1: Start again", Start(p, plain()), api.ErrThere)
	checkOpens(t, "9.1: Start again", p, plain())
}

func TestStartWithoutRoom(t *testing.T) {
	for _, c := range configs() {
		want := ofConfig(t, c)
		for room := range want {
			p := tape.New(room)
			p.Arm(0, 1)
			before := lookOf(p)
			checkCode(t, "9.1: Start without room", Start(p, c), api.ErrRoom)
			checkLook(t, "R5: Start without room", p, before)
			checkNone(t, "9.2: behind Start without room", p, api.ErrNone)
		}
	}
	checkCode(t, "9.1: Start of a tape that nobody made", Start(new(tape.Tape), plain()), api.ErrRoom)
}

func TestStartWhenThePowerGoes(t *testing.T) {
	for _, c := range configs() {
		want := ofConfig(t, c)
		for keep := -1; keep <= len(want)+1; keep++ {
			p := tape.New(1000)
			p.Arm(0, keep)
			checkCode(t, "9.1: Start when the power goes", Start(p, c), api.ErrDown)
			stays := want[:min(max(keep, 0), len(want))]
			checkAll(t, "9.1: Start when the power goes", p, stays, true)
			checkCode(t, "9.1: Start behind it", Start(p, c), api.ErrDown)
			checkNone(t, "9.2: Open behind it", p, api.ErrDown)
			p.Wake()
			if stays == want {
				checkOpens(t, "9.3: all of Start stays", p, c)
				continue
			}
			if stays != "" {
				checkCode(t, "9.1: Start ahead of Open", Start(p, c), api.ErrThere)
			}
			checkNone(t, "9.3: a front of Start stays", p, api.ErrNone)
			checkAll(t, "9.2: a front of a record is cut", p, "", false)
			checkCode(t, "9.1: Start once more", Start(p, c), api.OK)
			checkOpens(t, "9.1: Start once more", p, c)
		}
	}
}

func TestStartIsOneWrite(t *testing.T) {
	p := tape.New(1000)
	p.Arm(1, 0)
	checkCode(t, "9.1: Start", Start(p, plain()), api.OK)
	checkCode(t, "9.1: the write behind Start", Add(p, enrol(1)), api.ErrDown)
	p.Wake()
	checkOpens(t, "9.1: Start", p, plain())
}

func TestAddOfEachKind(t *testing.T) {
	for _, c := range configs() {
		p, want := tape.New(api.MaxRoom), ofConfig(t, c)
		checkCode(t, "9.1: Start", Start(p, c), api.OK)
		for n, e := range events() {
			checkCode(t, "9.1: Add", Add(p, e), api.OK)
			want += ofEvent(t, e)
			checkAll(t, "9.1: Add", p, want, false)
			checkOpens(t, "9.1: Add", p, c, events()[:n+1]...)
		}
	}
	// The events of all kinds have been there.
	kinds := map[int]bool{}
	for _, e := range events() {
		kinds[e.Kind] = true
	}
	if len(kinds) != api.EvPay {
		t.Errorf("these are %d kinds, want %d", len(kinds), api.EvPay)
	}
}

func TestAddOfAWrongEvent(t *testing.T) {
	for _, e := range wrongEvents() {
		for _, all := range append(strange(), "", ofConfig(t, plain()), ofAll(t, plain(), events()...)) {
			for _, p := range []*tape.Tape{holding(t, 5000, all), holding(t, len(all), all), fallen(t, 5000, all)} {
				p.Arm(0, 1)
				before := lookOf(p)
				checkCode(t, "9.1: Add of a wrong event", Add(p, e), api.ErrForm)
				checkLook(t, "R5: Add of a wrong event", p, before)
			}
		}
		checkCode(t, "R7: Add of a wrong event without a tape", Add(nil, e), api.ErrForm)
	}
}

func TestAddWhateverThereIs(t *testing.T) {
	for _, all := range append(strange(), "", ofConfig(t, plain()), ofAll(t, plain(), events()...)) {
		for _, e := range events() {
			p := holding(t, 5000, all)
			checkCode(t, "9.1: Add", Add(p, e), api.OK)
			checkAll(t, "9.1: Add", p, all+ofEvent(t, e), false)
		}
	}
}

func TestAddToATapeThatIsDown(t *testing.T) {
	for _, all := range append(strange(), "", ofConfig(t, plain()), ofAll(t, plain(), events()...)) {
		for _, e := range events() {
			for _, room := range []int{len(all), 5000} {
				p := fallen(t, room, all)
				before := lookOf(p)
				checkCode(t, "9.1: Add to a tape that is down", Add(p, e), api.ErrDown)
				checkLook(t, "R5: Add to a tape that is down", p, before)
			}
		}
	}
}

func TestAddWithoutRoom(t *testing.T) {
	for _, e := range events() {
		one := ofEvent(t, e)
		for _, all := range append(strange(), "", ofConfig(t, plain())) {
			for room := range one {
				p := holding(t, len(all)+room, all)
				p.Arm(0, 1)
				before := lookOf(p)
				checkCode(t, "9.1: Add without room", Add(p, e), api.ErrRoom)
				checkLook(t, "R5: Add without room", p, before)
			}
			p := holding(t, len(all)+len(one), all)
			checkCode(t, "9.1: Add with just the room", Add(p, e), api.OK)
			checkAll(t, "9.1: Add with just the room", p, all+one, false)
		}
	}
}

func TestAddWhenThePowerGoes(t *testing.T) {
	for _, e := range events() {
		one := ofEvent(t, e)
		for keep := -1; keep <= len(one)+1; keep++ {
			p := holding(t, 1000, ofAll(t, plain(), enrol(1)))
			p.Arm(0, keep)
			checkCode(t, "9.1: Add when the power goes", Add(p, e), api.ErrDown)
			stays := one[:min(max(keep, 0), len(one))]
			checkAll(t, "9.1: Add when the power goes", p, ofAll(t, plain(), enrol(1))+stays, true)
			checkCode(t, "9.1: Add behind it", Add(p, enrol(2)), api.ErrDown)
			checkNone(t, "9.2: Open behind it", p, api.ErrDown)
			p.Wake()
			want := []api.Event{enrol(1)}
			if stays == one {
				want = append(want, e)
			}
			checkOpens(t, "9.3: Add when the power goes", p, plain(), want...)
			checkCode(t, "9.1: Add once more", Add(p, e), api.OK)
			checkOpens(t, "9.1: Add once more", p, plain(), append(want, e)...)
		}
	}
}

func TestAddWhenThePowerGoesOnOtherTapes(t *testing.T) {
	for _, all := range append(strange(), "") {
		one := ofEvent(t, enrol(1))
		for keep := range len(one) + 1 {
			p := holding(t, 1000, all)
			p.Arm(0, keep)
			checkCode(t, "9.1: Add when the power goes", Add(p, enrol(1)), api.ErrDown)
			checkAll(t, "9.1: Add when the power goes", p, all+one[:keep], true)
		}
	}
}

func TestAddIsOneWrite(t *testing.T) {
	for writes := range 4 {
		p := holding(t, 1000, ofConfig(t, plain()))
		p.Arm(writes, 0)
		var want []api.Event
		for member := range writes {
			checkCode(t, "9.1: Add", Add(p, enrol(member+1)), api.OK)
			want = append(want, enrol(member+1))
		}
		checkCode(t, "9.1: Add when the power goes", Add(p, enrol(9)), api.ErrDown)
		p.Wake()
		checkOpens(t, "9.3: Add when the power goes", p, plain(), want...)
	}
}

func TestNoTape(t *testing.T) {
	for _, c := range configs() {
		checkCode(t, "R6: Start without a tape", Start(nil, c), api.ErrNone)
	}
	for _, e := range events() {
		checkCode(t, "R6: Add without a tape", Add(nil, e), api.ErrNone)
	}
	checkNone(t, "R6: Open without a tape", nil, api.ErrNone)
}

// meaning is what a record holds in a journal.
type meaning struct {
	name   string
	text   string
	config *api.Config
	event  *api.Event
}

// known is what records of several kinds hold: right configs, right events, and what is neither.
func known(t *testing.T) []meaning {
	t.Helper()
	var l []meaning
	for _, c := range configs()[1:3] {
		b, _ := plan.Put(c)
		l = append(l, meaning{name: "config", text: string(b), config: &c})
	}
	for _, e := range []api.Event{enrol(1), {Kind: api.EvWind}, {Kind: api.EvBid, Member: 2, Id: 9, P: -1}} {
		b, _ := event.Put(e)
		l = append(l, meaning{name: "event", text: string(b), event: &e})
	}
	short := string([]byte{2, 0, 10, 2, 0, 0, 0, 0, 0, 2})
	for _, text := range []string{"", "\x00", "\x01", "\x01\x1a", "\x01\x02\x00", "\x01\x82\x00", "\x17", short, short + "\x00\x00", strings.Repeat("a", 400)} {
		l = append(l, meaning{name: "neither", text: text})
	}
	return l
}

// model is what Open must tell of bytes, and what of these must stay, by the document's words.
func model(all string, known []meaning) (c api.Config, l []api.Event, code api.Errno, stays string) {
	held, whole := split(all)
	stays = all[:whole]
	if len(held) == 0 {
		return api.Config{}, nil, api.ErrNone, stays
	}
	for place, text := range held {
		i := slices.IndexFunc(known, func(m meaning) bool { return m.text == text })
		switch {
		case i >= 0 && place == 0 && known[i].config != nil:
			c = *known[i].config
		case i >= 0 && place > 0 && known[i].event != nil:
			l = append(l, *known[i].event)
		default:
			return api.Config{}, nil, api.ErrBad, stays
		}
	}
	return c, l, api.OK, stays
}

// modelAll is what All must tell of bytes, by the document's words.
func modelAll(all string, known []meaning) (l []api.Event) {
	held, _ := split(all)
	for place, text := range held {
		i := slices.IndexFunc(known, func(m meaning) bool { return m.text == text })
		if place == 0 {
			if i < 0 || known[i].config == nil {
				return nil
			}
			continue
		}
		if i < 0 || known[i].event == nil {
			return l
		}
		l = append(l, *known[i].event)
	}
	return l
}

// checkBytes holds Open and All of any bytes against the model, with the power going at the Cut, too.
func checkBytes(t *testing.T, all string, known []meaning) {
	t.Helper()
	c, l, code, stays := model(all, known)
	p := holding(t, len(all), all)
	checkOpen(t, "9.2: Open", p, c, l, code)
	checkAll(t, "9.2: Open", p, stays, false)
	checkRanged(t, all, modelAll(all, known))
	for keep := -1; keep < 3; keep++ {
		p := holding(t, len(all), all)
		p.Arm(0, keep)
		if stays == all {
			before := lookOf(p)
			checkOpen(t, "9.2: Open without a Cut", p, c, l, code)
			checkLook(t, "9.2: Open without a Cut", p, before)
			continue
		}
		checkNone(t, "9.2: Open when the power goes at its Cut", p, api.ErrDown)
		left := all
		if keep > 0 {
			left = stays
		}
		checkAll(t, "9.2: Open when the power goes at its Cut", p, left, true)
		p.Wake()
		checkOpen(t, "9.3: Open once more", p, c, l, code)
		checkAll(t, "9.3: Open once more", p, stays, false)
	}
	p = fallen(t, len(all), all)
	before := lookOf(p)
	checkNone(t, "9.2: Open of a tape that is down", p, api.ErrDown)
	checkLook(t, "R5: Open of a tape that is down", p, before)
}

// entry is a place and an event that All hands on.
type entry struct {
	place int
	event api.Event
}

// checkRanged ranges over All, to its end and up to each place, twice.
func checkRanged(t *testing.T, all string, want []api.Event) {
	t.Helper()
	b := []byte(all)
	walk := All(b)
	for stop := len(want); stop >= 0; stop-- {
		for range 2 {
			var got []entry
			for place, e := range walk {
				got = append(got, entry{place, e})
				if place == stop {
					break
				}
			}
			if n := min(stop+1, len(want)); !sameEntries(got, want[:n]) {
				t.Errorf("9.2: All(% x) up to %d = %v, want %v", all, stop, got, want[:n])
			}
		}
	}
	if string(b) != all {
		t.Errorf("R4: All has changed % x to % x", all, b)
	}
}

func sameEntries(got []entry, want []api.Event) bool {
	if len(got) != len(want) {
		return false
	}
	for i, x := range got {
		if x.place != i || x.event != want[i] {
			return false
		}
	}
	return true
}

// behind is what may stand behind whole records: nothing, or bytes that begin no whole one.
func behind(t *testing.T) []string {
	t.Helper()
	one := ofEvent(t, enrol(1))
	broken := one[:3] + "\x03" + one[4:]
	return []string{"", "\x00", one[:1], one[:5], one[:7], "\x01\x91", "\xff\xff\xff", strings.Repeat("\x00", 6), broken, broken + one}
}

func TestOpenByHand(t *testing.T) {
	c := plain()
	head, one, two := ofConfig(t, c), ofEvent(t, enrol(1)), ofEvent(t, enrol(2))
	for _, x := range []struct {
		name  string
		all   string
		code  api.Errno
		l     []api.Event
		stays int
	}{
		{"no bytes", "", api.ErrNone, nil, 0},
		{"a byte", "\x00", api.ErrNone, nil, 0},
		{"strange bytes", "ab" + head, api.ErrNone, nil, 0},
		{"a front of a config", head[:16], api.ErrNone, nil, 0},
		{"a broken config", "\x00\x0b\x04" + head[3:] + one, api.ErrNone, nil, 0},
		{"a config", head, api.OK, nil, 17},
		{"a config and events", head + two + one + two, api.OK, []api.Event{enrol(2), enrol(1), enrol(2)}, 41},
		{"part of an event", head + one + two[:7], api.OK, []api.Event{enrol(1)}, 25},
		{"strange bytes behind", head + one + "xyz" + two, api.OK, []api.Event{enrol(1)}, 25},
		{"an event first", one + head, api.ErrBad, nil, 25},
		{"an event alone", one, api.ErrBad, nil, 8},
		{"a record of no bytes first", record("") + head, api.ErrBad, nil, 23},
		{"a record of no bytes alone", record(""), api.ErrBad, nil, 6},
		{"a record of no bytes last", head + record(""), api.ErrBad, nil, 23},
		{"a record of no bytes between", head + one + record("") + two, api.ErrBad, nil, 39},
		{"two configs", head + head, api.ErrBad, nil, 34},
		{"no right event first", head + record("\x01\x00") + one, api.ErrBad, nil, 33},
		{"no right event last", head + one + record("\x01\x1a"), api.ErrBad, nil, 33},
		{"no right event and part of one", head + record("\x00") + two[:3], api.ErrBad, nil, 24},
		{"no config and part of one", record("\x00") + head[:9], api.ErrBad, nil, 7},
		{"a byte too much in a config", record(head[2:13]+"\x00") + one, api.ErrBad, nil, 26},
	} {
		p := holding(t, 100, x.all)
		want := api.Config{}
		if x.code == api.OK {
			want = c
		}
		checkOpen(t, "9.2: "+x.name, p, want, x.l, x.code)
		checkAll(t, "9.2: "+x.name, p, x.all[:x.stays], false)
	}
}

func TestOpenAndAllOfRecordsOfEachMeaning(t *testing.T) {
	l := known(t)
	for _, tail := range behind(t) {
		checkBytes(t, tail, l)
		for _, a := range l {
			checkBytes(t, record(a.text)+tail, l)
			for _, b := range l {
				checkBytes(t, record(a.text)+record(b.text)+tail, l)
			}
		}
	}
	for _, a := range l {
		for _, b := range l {
			for _, c := range l {
				checkBytes(t, record(a.text)+record(b.text)+record(c.text), l)
			}
		}
	}
}

func TestOpenAndAllOfManyRecords(t *testing.T) {
	l := known(t)
	var s noise
	for range 500 {
		all := record(l[s.below(2)].text)
		for range s.below(20) {
			all += record(l[2+s.below(3)].text)
		}
		// Now and then another thing is among them, or behind.
		if s.below(2) == 0 {
			all += record(l[s.below(len(l))].text) + record(l[2].text)
		}
		checkBytes(t, all+behind(t)[s.below(len(behind(t)))], l)
	}
}

func TestOpenAndAllOfTurnedBits(t *testing.T) {
	l := known(t)
	all := record(l[1].text) + record(l[2].text) + record(l[3].text) + record(l[4].text)
	for bit := range 8 * len(all) {
		b := []byte(all)
		b[bit/8] ^= 1 << (bit % 8)
		checkBytes(t, string(b), l)
	}
}

func TestOpenAndAllOfEachFront(t *testing.T) {
	l := known(t)
	for _, head := range l[:2] {
		all := record(head.text) + record(l[2].text) + record(l[3].text) + record(l[4].text)
		for n := range len(all) + 1 {
			checkBytes(t, all[:n], l)
		}
	}
}

func TestOpenAndAllOfNoise(t *testing.T) {
	l := known(t)
	var s noise
	for n := range 300 {
		checkBytes(t, s.bytes(n), l)
		checkBytes(t, record(l[1].text)+s.bytes(n), l)
		// A record with bytes of any kind.
		checkBytes(t, record(s.bytes(100+n%300)), l)
		checkBytes(t, record(l[1].text)+record(s.bytes(100+n%300)), l)
	}
}

func TestOpenCutsByOneWrite(t *testing.T) {
	all := ofAll(t, plain(), enrol(1))
	p := holding(t, 1000, all+"\x00")
	p.Arm(1, 0)
	checkOpens(t, "9.2: Open", p, plain(), enrol(1))
	checkCode(t, "9.2: the write behind Open's Cut", Add(p, enrol(2)), api.ErrDown)
	p.Wake()
	checkOpens(t, "9.2: Open", p, plain(), enrol(1))
}

func TestAllOfEachKind(t *testing.T) {
	for _, c := range configs() {
		checkRanged(t, ofAll(t, c, events()...), events())
	}
}

func TestOpenOfAFullTape(t *testing.T) {
	p, kinds := tape.New(api.MaxRoom), events()
	checkCode(t, "9.1: Start", Start(p, plain()), api.OK)
	var want []api.Event
	for len(want) < api.MaxRoom {
		e := kinds[len(want)%len(kinds)]
		code := Add(p, e)
		if code != api.OK {
			checkCode(t, "9.1: Add to a full tape", code, api.ErrRoom)
			break
		}
		want = append(want, e)
	}
	if len(want) < 50_000 {
		t.Errorf("9.1: %d events fill the tape", len(want))
	}
	before := lookOf(p)
	checkOpen(t, "9.2: Open of a full tape", p, plain(), want, api.OK)
	checkLook(t, "9.2: Open of a full tape", p, before)
	next := 0
	for place, e := range All([]byte(before.all)) {
		if place != next || e != want[place] {
			t.Fatal("9.2: All of a full tape", place, e)
		}
		next++
	}
	if next != len(want) {
		t.Error("9.2: All of a full tape", next, len(want))
	}
}

func TestAPieceOfAnEventTakesRoomUntilItIsCut(t *testing.T) {
	room := len(ofAll(t, plain(), enrol(1), enrol(2)))
	p := holding(t, room, ofAll(t, plain(), enrol(1)))
	p.Arm(0, 3)
	checkCode(t, "9.1: Add when the power goes", Add(p, enrol(2)), api.ErrDown)
	p.Wake()
	checkCode(t, "9.1: Add ahead of Open", Add(p, enrol(2)), api.ErrRoom)
	checkOpens(t, "9.3: Open", p, plain(), enrol(1))
	checkCode(t, "9.1: Add behind Open", Add(p, enrol(2)), api.OK)
	checkOpens(t, "9.3: Open", p, plain(), enrol(1), enrol(2))
}

func TestNothingThatWasAnsweredIsLost(t *testing.T) {
	c, l := plain(), []api.Event{enrol(1), {Kind: api.EvWind}, {Kind: api.EvFill, Acc: 24, Id: 1 << 40, Q: billion, P: trillion}, enrol(2), enrol(2)}
	for writes := range len(l) + 2 {
		// Keep runs over each front of the write in flight, of which the longest has 25 bytes, or all of it.
		for keep := range 27 {
			p := tape.New(1000)
			p.Arm(writes, keep)
			answered := 0
			code := Start(p, c)
			for code == api.OK && answered < len(l) {
				answered++
				code = Add(p, l[answered-1])
			}
			if writes > len(l) {
				checkCode(t, "9.3: the last write", code, api.OK)
				checkOpens(t, "9.3: no power has gone", p, c, l...)
				continue
			}
			checkCode(t, "9.3: the write in flight", code, api.ErrDown)
			checkInFlight(t, p, c, l, writes, keep)
		}
	}
}

// checkInFlight opens a tape whose power went at a write: so many went ahead of it, and of its bytes so many stay.
func checkInFlight(t *testing.T, p *tape.Tape, c api.Config, l []api.Event, writes, keep int) {
	t.Helper()
	inFlight := ofConfig(t, c)
	if writes > 0 {
		inFlight = ofEvent(t, l[writes-1])
	}
	stays := writes
	if keep >= len(inFlight) {
		stays++
	}
	p.Wake()
	if stays == 0 {
		checkNone(t, "9.3: Start was in flight", p, api.ErrNone)
		checkCode(t, "9.3: Start once more", Start(p, c), api.OK)
		stays = 1
	}
	checkOpens(t, "9.3: Open", p, c, l[:stays-1]...)
	for _, e := range l[stays-1:] {
		checkCode(t, "9.3: Add behind Open", Add(p, e), api.OK)
	}
	checkOpens(t, "9.3: Open", p, c, l...)
}

func TestNothingThatWasAnsweredIsLostOverAndOver(t *testing.T) {
	for seed := range 200 {
		s := noise(seed)
		p := tape.New(2000)
		checkCode(t, "9.1: Start", Start(p, plain()), api.OK)
		var want []api.Event
		for range 30 {
			p.Arm(s.below(4), s.below(30))
			for range 4 {
				e, n := events()[s.below(len(events()))], p.Len()
				code := Add(p, e)
				// Of the one in flight all may stay.
				if p.Len() == n+len(ofEvent(t, e)) {
					want = append(want, e)
				}
				if code == api.ErrRoom {
					want, p = nil, holding(t, 2000, ofConfig(t, plain()))
				}
				if code != api.OK {
					break
				}
			}
			p.Wake()
			// The power may go at the Cut, too.
			p.Arm(s.below(2), s.below(2))
			if _, _, code := Open(p); code != api.OK {
				checkCode(t, "9.3: Open when the power goes", code, api.ErrDown)
				p.Wake()
			}
			p.Arm(-1, 0)
			checkOpens(t, "9.3: Open", p, plain(), want...)
		}
	}
}

// spoil writes over a list and its spare room.
func spoil[T any](l []T, x T) {
	l = l[:cap(l)]
	for i := range l {
		l[i] = x
	}
}

func TestOpenAnswersNewMemory(t *testing.T) {
	all := ofAll(t, configs()[1], events()...)
	p := holding(t, len(all), all)
	c, l, _ := Open(p)
	again, more, _ := Open(p)
	spoil(c.Insts, api.Inst{Bucket: 77})
	spoil(l, api.Event{Kind: 77})
	if !plan.Same(again, configs()[1]) || !slices.Equal(more, events()) {
		t.Errorf("R4: what was done to an answer of Open is seen in another one: %v, %v", again, more)
	}
	checkOpens(t, "R4: what was done to an answer of Open", p, configs()[1], events()...)
}

func TestStartKeepsNothing(t *testing.T) {
	for _, c := range configs() {
		insts := slices.Grow(slices.Clone(c.Insts), 9)
		spoil(insts[len(insts):], api.Inst{Price: 77})
		handed := c
		handed.Insts = insts
		p := tape.New(1000)
		checkCode(t, "9.1: Start", Start(p, handed), api.OK)
		if !plan.Same(handed, c) || insts[:cap(insts)][len(insts)] != (api.Inst{Price: 77}) {
			t.Errorf("R4: Start has changed its config to %v", handed)
		}
		spoil(insts, api.Inst{Price: 78})
		checkOpens(t, "R4: what was done to Start's config", p, c)
	}
}

func TestAllKeepsNothing(t *testing.T) {
	all := ofAll(t, plain(), events()...)
	b := []byte(all)
	walk := All(b)
	clear(b)
	var got []entry
	for place, e := range walk {
		got = append(got, entry{place, e})
	}
	if !sameEntries(got, events()) {
		t.Errorf("R4: All hangs on what became of its bytes: %v", got)
	}
	b, got = []byte(all), nil
	for place, e := range All(b) {
		got = append(got, entry{place, e})
		clear(b)
	}
	if !sameEntries(got, events()) {
		t.Errorf("R4: All hangs on what becomes of its bytes meanwhile: %v", got)
	}
}

func TestAllLeavesSpareRoomAlone(t *testing.T) {
	all := []byte(ofAll(t, plain(), events()...) + "spare")
	b := all[:len(all)-5]
	before := bytes.Clone(all)
	for range All(b) {
	}
	if !bytes.Equal(all, before) {
		t.Errorf("R4: All has written behind its bytes: % x", all)
	}
}

func TestAllWithinAll(t *testing.T) {
	walk := All([]byte(ofAll(t, plain(), events()...)))
	var outer []entry
	for place, e := range walk {
		outer = append(outer, entry{place, e})
		var inner []entry
		for place, e := range walk {
			inner = append(inner, entry{place, e})
		}
		if !sameEntries(inner, events()) {
			t.Errorf("9.2: All within All = %v", inner)
		}
	}
	if !sameEntries(outer, events()) {
		t.Errorf("9.2: All around All = %v", outer)
	}
}
