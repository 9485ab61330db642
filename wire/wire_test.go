package wire

import (
	"bytes"
	"math"
	"math/big"
	"regexp"
	"slices"
	"strings"
	"testing"

	"novation/api"
	"novation/event"
)

// noise is a plain sequence of numbers, the same in each run.
type noise uint64

func (s *noise) next() uint32 {
	*s = *s*6364136223846793005 + 1442695040888963407
	x := uint64(*s)
	x ^= x >> 29
	x *= 0xbf58476d1ce4e5b9
	return uint32(x >> 32)
}

// below is a number from 0 on that is less than n.
func (s *noise) below(n int) int { return int(s.next() % uint32(n)) }

// int64 is a number of any size and sign.
func (s *noise) int64() int64 {
	x := uint64(s.next())<<32 | uint64(s.next())
	return int64(x) >> s.below(64)
}

// within is a number from least to most.
func (s *noise) within(least, most int64) int64 {
	count := uint64(most-least) + 1
	return least + int64((uint64(s.next())<<32|uint64(s.next()))%count)
}

// bound is a field of a kind, with its bounds.
type bound struct {
	letter      byte
	least, most int64
}

// shape is a kind as the table of 6.1 has it, its word, and the words of its sides.
type shape struct {
	kind   int
	word   string
	fields []bound
	sides  []string
}

const (
	trillion = 1_000_000_000_000
	billion  = 1_000_000_000
	bids     = 1 << 60
	ids      = 1 << 40
)

// shapes is the table of 6.1 with the words of 8.1, all written out.
func shapes() []shape {
	member, acc, inst := bound{'M', 1, 12}, bound{'A', 1, 24}, bound{'I', 0, 5}
	side, id := bound{'S', 1, 2}, bound{'D', 1, ids}
	money, price, quantity := bound{'Q', 1, math.MaxInt64}, bound{'P', 1, trillion}, bound{'Q', 1, billion}
	return []shape{
		{1, "enrol", []bound{member}, nil},
		{2, "open", []bound{member, acc, side}, []string{"house", "client"}},
		{3, "deposit", []bound{acc, money}, nil},
		{4, "withdraw", []bound{acc, money}, nil},
		{5, "fund", []bound{member, money}, nil},
		{6, "limit", []bound{acc, {'Q', 0, trillion}}, nil},
		{7, "order", []bound{acc, inst, side, quantity, price}, []string{"buy", "sell"}},
		{8, "cancel", []bound{acc, id}, nil},
		{9, "mark", []bound{inst, price}, nil},
		{10, "tick", []bound{{'Q', 1, 1_000_000}}, nil},
		{11, "suspend", []bound{member}, nil},
		{12, "reinstate", []bound{member}, nil},
		{13, "default", []bound{member}, nil},
		{14, "consent", []bound{member, acc}, nil},
		{15, "wind", nil, nil},
		{16, "hedge", nil, nil},
		{17, "fill", []bound{acc, id, quantity, price}, nil},
		{18, "auction", nil, nil},
		{19, "bid", []bound{member, id, {'P', -bids, bids}}, nil},
		{20, "award", nil, nil},
		{21, "allocate", nil, nil},
		{22, "pay", []bound{member, money}, nil},
	}
}

// get is the field of a letter.
func get(e api.Event, letter byte) int64 {
	return map[byte]int64{'M': int64(e.Member), 'A': int64(e.Acc), 'I': int64(e.Inst), 'S': int64(e.Side), 'D': e.Id, 'Q': e.Q, 'P': e.P}[letter]
}

// with is an event with another field of a letter.
func with(e api.Event, letter byte, x int64) api.Event {
	l := map[byte]int64{}
	for _, other := range []byte("MAISDQP") {
		l[other] = get(e, other)
	}
	l[letter] = x
	return api.Event{Kind: e.Kind, Member: int(l['M']), Acc: int(l['A']), Inst: int(l['I']), Side: int(l['S']), Id: l['D'], Q: l['Q'], P: l['P']}
}

// event is one of this shape, whose fields pick chooses.
func (s shape) event(pick func(bound) int64) api.Event {
	e := api.Event{Kind: s.kind}
	for _, f := range s.fields {
		e = with(e, f.letter, pick(f))
	}
	return e
}

func leastOf(f bound) int64 { return f.least }
func mostOf(f bound) int64  { return f.most }

// bases is right events of a shape: of the least values, of the greatest, of some between.
func (s shape) bases() []api.Event {
	n := noise(s.kind)
	between := func(f bound) int64 { return n.within(f.least, f.most) }
	short := func(f bound) int64 { return n.within(f.least, min(f.most, f.least+99)) }
	return []api.Event{s.event(leastOf), s.event(mostOf), s.event(between), s.event(between), s.event(short), s.event(short)}
}

// spell is a field's value as it is written.
func (s shape) spell(letter byte, x int64) string {
	if letter == 'S' {
		return s.sides[x-1]
	}
	return big.NewInt(x).String()
}

// line is the text of an event of this shape, in which other words may stand for some of the fields.
func (s shape) line(e api.Event, other map[byte]string) string {
	words := []string{s.word}
	for _, f := range s.fields {
		word, there := other[f.letter]
		if !there {
			word = s.spell(f.letter, get(e, f.letter))
		}
		words = append(words, word)
	}
	return strings.Join(words, " ")
}

// grammar is what the lines of a shape look like, whatever their numbers come to.
func (s shape) grammar() *regexp.Regexp {
	text := `\A` + s.word
	for _, f := range s.fields {
		if f.letter == 'S' {
			text += " (" + strings.Join(s.sides, "|") + ")"
		} else {
			text += " (0|-?[1-9][0-9]*)"
		}
	}
	return regexp.MustCompile(text + `\z`)
}

// model is the shapes with their grammars.
type model struct {
	shapes   []shape
	grammars []*regexp.Regexp
}

func newModel() model {
	m := model{shapes: shapes()}
	for _, s := range m.shapes {
		m.grammars = append(m.grammars, s.grammar())
	}
	return m
}

// parse is 8.2 by the grammars, with numbers of any size.
func (m model) parse(b []byte) (api.Event, api.Errno) {
	for i, s := range m.shapes {
		if !bytes.HasPrefix(b, []byte(s.word)) || len(b) > 120 {
			continue
		}
		found := m.grammars[i].FindSubmatch(b)
		if found == nil {
			continue
		}
		e := api.Event{Kind: s.kind}
		for j, f := range s.fields {
			word := string(found[1+j])
			if f.letter == 'S' {
				e.Side = 1 + slices.Index(s.sides, word)
				continue
			}
			x, _ := new(big.Int).SetString(word, 10)
			if x.Cmp(big.NewInt(f.least)) < 0 || x.Cmp(big.NewInt(f.most)) > 0 {
				return api.Event{}, api.ErrForm
			}
			e = with(e, f.letter, x.Int64())
		}
		return e, api.OK
	}
	return api.Event{}, api.ErrForm
}

// checkParse holds Parse against the model, and what is parsed against what is told.
func (m model) checkParse(t *testing.T, b []byte) {
	t.Helper()
	before := bytes.Clone(b)
	want, wantCode := m.parse(b)
	got, code := Parse(b)
	if got != want || code != wantCode {
		t.Errorf("8.2: Parse(%q) = %+v, %d, want %+v, %d", b, got, code, want, wantCode)
	}
	if !bytes.Equal(b, before) {
		t.Errorf("R4: Parse turned %q to %q", before, b)
	}
	if code != api.OK {
		return
	}
	if again, code := Text(got); again != string(b) || code != api.OK {
		t.Errorf("8.3: what is parsed of %q is told as %q, %d", b, again, code)
	}
}

// checkNone holds that these bytes are no event's.
func checkNone(t *testing.T, what, line string) {
	t.Helper()
	if got, code := Parse([]byte(line)); got != (api.Event{}) || code != api.ErrForm {
		t.Errorf("8.2: Parse of %s, %q = %+v, %d, want ErrForm", what, line, got, code)
	}
}

// checkText holds Text of a right event against its line, and Parse of that against the event.
func checkText(t *testing.T, e api.Event, want string) {
	t.Helper()
	if got, code := Text(e); got != want || code != api.OK {
		t.Errorf("8.1: Text(%+v) = %q, %d, want %q", e, got, code, want)
	}
	if got, code := Parse([]byte(want)); got != e || code != api.OK {
		t.Errorf("8.2: Parse(%q) = %+v, %d, want %+v", want, got, code, e)
	}
}

// checkNoText holds that an event that isn't right has no line.
func checkNoText(t *testing.T, e api.Event) {
	t.Helper()
	if got, code := Text(e); got != "" || code != api.ErrForm {
		t.Errorf("8.1: Text(%+v) = %q, %d, want ErrForm", e, got, code)
	}
}

// noKinds is numbers that are no kind, some of which are one in their lowest byte or in 32 bits.
func noKinds() []int {
	return []int{0, -1, -2, -22, 23, 24, 100, 255, 256, 257, 256 + 15, 1<<32 + 1, 1<<32 + 15, math.MaxInt64, math.MaxInt64 - 1, math.MinInt64, math.MinInt64 + 1, math.MinInt64 + 15}
}

func TestWordOfEachKind(t *testing.T) {
	for kind, want := range map[int]string{
		api.EvEnrol: "enrol", api.EvOpen: "open", api.EvDeposit: "deposit", api.EvWithdraw: "withdraw",
		api.EvFund: "fund", api.EvLimit: "limit", api.EvOrder: "order", api.EvCancel: "cancel",
		api.EvMark: "mark", api.EvTick: "tick", api.EvSuspend: "suspend", api.EvReinstate: "reinstate",
		api.EvDefault: "default", api.EvConsent: "consent", api.EvWind: "wind", api.EvHedge: "hedge",
		api.EvFill: "fill", api.EvAuction: "auction", api.EvBid: "bid", api.EvAward: "award",
		api.EvAllocate: "allocate", api.EvPay: "pay",
	} {
		if got := Word(kind); got != want {
			t.Errorf("8.1: Word(%d) = %q, want %q", kind, got, want)
		}
	}
	for i, s := range shapes() {
		if got := Word(1 + i); got != s.word || s.kind != 1+i {
			t.Errorf("8.1: Word(%d) = %q, want %q", 1+i, got, s.word)
		}
	}
}

func TestWordOfNoKind(t *testing.T) {
	for _, kind := range noKinds() {
		if got := Word(kind); got != "" {
			t.Errorf("8.1: Word(%d) = %q", kind, got)
		}
	}
	for kind := -1000; kind <= 1000; kind++ {
		if got := Word(kind); (got != "") != (kind >= 1 && kind <= 22) {
			t.Errorf("8.1: Word(%d) = %q", kind, got)
		}
	}
}

func TestExampleOfTheChapter(t *testing.T) {
	checkText(t, api.Event{Kind: api.EvOrder, Acc: 3, Inst: 0, Side: api.Buy, Q: 10, P: 250}, "order 3 0 buy 10 250")
}

func TestTextByHand(t *testing.T) {
	for _, c := range []struct {
		e    api.Event
		want string
	}{
		{api.Event{Kind: api.EvEnrol, Member: 12}, "enrol 12"},
		{api.Event{Kind: api.EvOpen, Member: 3, Acc: 24, Side: api.House}, "open 3 24 house"},
		{api.Event{Kind: api.EvOpen, Member: 3, Acc: 10, Side: api.Client}, "open 3 10 client"},
		{api.Event{Kind: api.EvDeposit, Acc: 1, Q: math.MaxInt64}, "deposit 1 9223372036854775807"},
		{api.Event{Kind: api.EvWithdraw, Acc: 20, Q: 100}, "withdraw 20 100"},
		{api.Event{Kind: api.EvFund, Member: 1, Q: 7}, "fund 1 7"},
		{api.Event{Kind: api.EvLimit, Acc: 5}, "limit 5 0"},
		{api.Event{Kind: api.EvLimit, Acc: 5, Q: api.MaxLimit}, "limit 5 1000000000000"},
		{api.Event{Kind: api.EvOrder, Acc: 3, Inst: 5, Side: api.Sell, Q: api.MaxQty, P: api.MaxPrice}, "order 3 5 sell 1000000000 1000000000000"},
		{api.Event{Kind: api.EvCancel, Acc: 2, Id: api.MaxId}, "cancel 2 1099511627776"},
		{api.Event{Kind: api.EvMark, Inst: 0, P: 32}, "mark 0 32"},
		{api.Event{Kind: api.EvTick, Q: api.MaxTicks}, "tick 1000000"},
		{api.Event{Kind: api.EvSuspend, Member: 1}, "suspend 1"},
		{api.Event{Kind: api.EvReinstate, Member: 2}, "reinstate 2"},
		{api.Event{Kind: api.EvDefault, Member: 3}, "default 3"},
		{api.Event{Kind: api.EvConsent, Member: 1, Acc: 2}, "consent 1 2"},
		{api.Event{Kind: api.EvWind}, "wind"},
		{api.Event{Kind: api.EvHedge}, "hedge"},
		{api.Event{Kind: api.EvFill, Acc: 1, Id: 2, Q: 3, P: 4}, "fill 1 2 3 4"},
		{api.Event{Kind: api.EvAuction}, "auction"},
		{api.Event{Kind: api.EvBid, Member: 1, Id: 1, P: -api.MaxBid}, "bid 1 1 -1152921504606846976"},
		{api.Event{Kind: api.EvBid, Member: 1, Id: 1, P: -1}, "bid 1 1 -1"},
		{api.Event{Kind: api.EvBid, Member: 1, Id: 1, P: -10}, "bid 1 1 -10"},
		{api.Event{Kind: api.EvBid, Member: 1, Id: 1}, "bid 1 1 0"},
		{api.Event{Kind: api.EvBid, Member: 1, Id: 1, P: api.MaxBid}, "bid 1 1 1152921504606846976"},
		{api.Event{Kind: api.EvAward}, "award"},
		{api.Event{Kind: api.EvAllocate}, "allocate"},
		{api.Event{Kind: api.EvPay, Member: 4, Q: 1}, "pay 4 1"},
	} {
		checkText(t, c.e, c.want)
	}
}

func TestTextOfEachKindAtItsBounds(t *testing.T) {
	for _, s := range shapes() {
		for _, base := range s.bases() {
			checkText(t, base, s.line(base, nil))
			for _, f := range s.fields {
				for _, x := range []int64{f.least, f.most, min(f.least+1, f.most), max(f.most-1, f.least)} {
					e := with(base, f.letter, x)
					checkText(t, e, s.line(e, nil))
				}
			}
		}
	}
}

func TestTextFitsIntoALine(t *testing.T) {
	for _, s := range shapes() {
		for _, e := range s.bases() {
			if text, code := Text(e); code != api.OK || len(text) == 0 || len(text) > api.MaxLine {
				t.Errorf("8.3: Text(%+v) has %d bytes, %d", e, len(text), code)
			}
		}
	}
}

func TestTextOfWhatIsNotRight(t *testing.T) {
	checkNoText(t, api.Event{})
	checkNoText(t, api.Event{Member: 1})
	for _, s := range shapes() {
		for _, base := range s.bases() {
			for _, kind := range noKinds() {
				e := base
				e.Kind = kind
				checkNoText(t, e)
			}
			for _, letter := range []byte("MAISDQP") {
				f := bound{letter, 0, 0}
				if i := slices.IndexFunc(s.fields, func(g bound) bool { return g.letter == letter }); i >= 0 {
					f = s.fields[i]
				}
				checkNoText(t, with(base, letter, f.least-1))
				checkNoText(t, with(base, letter, math.MinInt64))
				if f.most < math.MaxInt64 {
					checkNoText(t, with(base, letter, f.most+1))
					checkNoText(t, with(base, letter, math.MaxInt64))
				}
			}
		}
	}
}

func TestTextIsEventRights(t *testing.T) {
	m := newModel()
	var n noise
	for range 30_000 {
		e := api.Event{Kind: n.below(26) - 1}
		for _, letter := range []byte(event.Fields(e.Kind)) {
			if n.below(8) > 0 {
				e = with(e, letter, int64(1+n.below(2)))
			} else {
				e = with(e, letter, n.int64())
			}
		}
		if n.below(8) == 0 {
			e = with(e, "MAISDQP"[n.below(7)], n.int64())
		}
		if !event.Right(e) {
			checkNoText(t, e)
			continue
		}
		s := m.shapes[e.Kind-1]
		checkText(t, e, s.line(e, nil))
		m.checkParse(t, []byte(s.line(e, nil)))
	}
}

func TestParseOfNoneByHand(t *testing.T) {
	for _, c := range []struct{ what, line string }{
		{"no bytes", ""},
		{"a blank", " "},
		{"two blanks", "  "},
		{"bytes that are no word", "tock 3"},
		{"a number alone", "10"},
		{"a number for a word", "10 3"},
		{"a kind's byte", "\n"},
		{"a great letter", "Tick 3"},
		{"great letters", "WIND"},
		{"a word without its end", "win"},
		{"a word with more behind it", "winds"},
		{"two words at once", "windhedge"},
		{"two words", "wind hedge"},
		{"a word and its field at once", "tick3"},
		{"a blank ahead", " tick 3"},
		{"a blank behind", "tick 3 "},
		{"two blanks between", "tick  3"},
		{"a blank ahead of a word alone", " wind"},
		{"a blank behind a word alone", "wind "},
		{"a tab", "tick\t3"},
		{"a line's end", "tick 3\n"},
		{"a carriage's return", "tick 3\r"},
		{"a nought byte", "tick 3\x00"},
		{"a comma", "tick,3"},
		{"no field", "tick"},
		{"an empty field", "tick "},
		{"a field too much", "tick 3 4"},
		{"a field of none", "wind 1"},
		{"four fields of five", "order 3 0 buy 10"},
		{"six fields of five", "order 3 0 buy 10 250 1"},
		{"no number", "tick x"},
		{"a number with a letter behind", "tick 3x"},
		{"a number with a letter ahead", "tick x3"},
		{"a number with a nought ahead", "tick 03"},
		{"a number with noughts ahead", "tick 0003"},
		{"two noughts", "limit 1 00"},
		{"a number below 0 with a nought ahead", "bid 2 9 -01"},
		{"a plus", "tick +3"},
		{"a plus and a nought", "limit 1 +0"},
		{"a nought with a sign", "bid 2 9 -0"},
		{"a sign alone", "bid 2 9 -"},
		{"a plus alone", "bid 2 9 +"},
		{"two signs", "bid 2 9 --1"},
		{"a plus and a minus", "bid 2 9 +-1"},
		{"a sign behind", "bid 2 9 1-"},
		{"a blank behind a sign", "bid 2 9 - 1"},
		{"a point", "tick 3.0"},
		{"a power of ten", "tick 1e3"},
		{"a number by sixteens", "tick 0x3"},
		{"a number with a low line", "tick 1_000"},
		{"a number with a comma", "tick 1,000"},
		{"a number of other digits", "tick \u0663"},
		{"a number with another minus", "bid 2 9 \u22121"},
		{"another blank", "tick\u00a03"},
		{"one above int64", "deposit 1 9223372036854775808"},
		{"2^64 and 1", "deposit 1 18446744073709551617"},
		{"2^64 and 3", "tick 18446744073709551619"},
		{"2^32 and 3", "tick 4294967299"},
		{"2^32 and 1 of a member", "enrol 4294967297"},
		{"2^64 and 1 of a member", "enrol 18446744073709551617"},
		{"the least int64", "bid 2 9 -9223372036854775808"},
		{"one below int64", "bid 2 9 -9223372036854775809"},
		{"a number of 100 digits", "tick 1" + strings.Repeat("0", 99)},
		{"no member", "enrol 0"},
		{"a member too much", "enrol 13"},
		{"an account too much", "consent 1 25"},
		{"an instrument too much", "mark 6 1"},
		{"an instrument below 0", "mark -1 1"},
		{"a price of 0", "mark 0 0"},
		{"a price too great", "mark 0 1000000000001"},
		{"a deposit of 0", "deposit 1 0"},
		{"a deposit below 0", "deposit 1 -1"},
		{"a limit below 0", "limit 1 -1"},
		{"a limit too great", "limit 1 1000000000001"},
		{"a tick of 0", "tick 0"},
		{"too many ticks", "tick 1000001"},
		{"an order of 0", "order 3 0 buy 0 250"},
		{"an order too great", "order 3 0 buy 1000000001 250"},
		{"no id", "cancel 1 0"},
		{"an id too great", "cancel 1 1099511627777"},
		{"a bid too great", "bid 2 9 1152921504606846977"},
		{"a bid too far below 0", "bid 2 9 -1152921504606846977"},
		{"an account's kind for a side", "order 3 0 house 10 250"},
		{"another account's kind for a side", "order 3 0 client 10 250"},
		{"a side for an account's kind", "open 1 2 buy"},
		{"another side for an account's kind", "open 1 2 sell"},
		{"a number for an account's kind", "open 1 2 1"},
		{"a number for a side", "order 3 0 1 10 250"},
		{"a great letter of a side", "order 3 0 Buy 10 250"},
		{"a side of another kind", "order 3 0 hold 10 250"},
		{"no side", "order 3 0  10 250"},
		{"a side for a number", "tick buy"},
		{"bytes beyond 127", "tick 3\x80"},
		{"bytes beyond 127 ahead", "\xfftick 3"},
		{"a letter with 128 more", "win\xe4"},
		{"bytes beyond 127 alone", "\xff\xfe\x80"},
		{"a mark of the bytes' order ahead", "\ufeffwind"},
	} {
		checkNone(t, c.what, c.line)
		newModel().checkParse(t, []byte(c.line))
	}
}

func TestParseOfOtherNumbers(t *testing.T) {
	for _, s := range shapes() {
		for _, e := range s.bases() {
			for _, f := range s.fields {
				if f.letter == 'S' {
					continue
				}
				x := big.NewInt(get(e, f.letter))
				right := x.String()
				for _, word := range []string{"", "+" + right, "0" + right, "00" + right, "-0" + right, "+0" + right, "--" + right, "+-" + right, "-+" + right, right + "-", right + " ", " " + right, right + "0x", "0x" + right, right + ".", right + ".0", right + "e0", right + "_", "_" + right, right + ",", "'" + right + "'", right + "\x00", "\xb0" + right, "x", "-", "+", "-0", "00", "NaN", "buy", "house", "\u0661"} {
					checkNone(t, "another word for a number", s.line(e, map[byte]string{f.letter: word}))
				}
				for _, bit := range []uint{62, 63, 64, 65, 127, 128, 192, 256} {
					for _, sign := range []int64{1, -1} {
						y := new(big.Int).Lsh(big.NewInt(sign), bit)
						y.Add(y, x)
						if y.IsInt64() && y.Int64() >= f.least && y.Int64() <= f.most {
							continue
						}
						checkNone(t, "a number beyond its bounds", s.line(e, map[byte]string{f.letter: y.String()}))
					}
				}
			}
		}
	}
}

func TestParseOfNumbersAtTheirBounds(t *testing.T) {
	m := newModel()
	for _, s := range m.shapes {
		for _, e := range s.bases() {
			for _, f := range s.fields {
				if f.letter == 'S' {
					continue
				}
				for _, x := range []int64{f.least, f.most} {
					if got, code := Parse([]byte(s.line(with(e, f.letter, x), nil))); got != with(e, f.letter, x) || code != api.OK {
						t.Errorf("8.2: Parse of %c %d of %s = %+v, %d", f.letter, x, s.word, got, code)
					}
				}
				one := big.NewInt(1)
				below := new(big.Int).Sub(big.NewInt(f.least), one)
				above := new(big.Int).Add(big.NewInt(f.most), one)
				checkNone(t, "a number below its bounds", s.line(e, map[byte]string{f.letter: below.String()}))
				checkNone(t, "a number above its bounds", s.line(e, map[byte]string{f.letter: above.String()}))
				for x := int64(-3); x <= 30; x++ {
					m.checkParse(t, []byte(s.line(e, map[byte]string{f.letter: big.NewInt(x).String()})))
				}
			}
		}
	}
}

func TestParseOfSides(t *testing.T) {
	m := newModel()
	all := []string{"house", "client", "buy", "sell", "House", "BUY", "hous", "sells", "1", "2", "0", "", "x", "client ", "\xff"}
	for _, c := range []struct {
		line func(side string) string
		want map[string]api.Event
	}{
		{func(side string) string { return "open 1 2 " + side }, map[string]api.Event{
			"house":  {Kind: api.EvOpen, Member: 1, Acc: 2, Side: api.House},
			"client": {Kind: api.EvOpen, Member: 1, Acc: 2, Side: api.Client},
		}},
		{func(side string) string { return "order 3 1 " + side + " 10 250" }, map[string]api.Event{
			"buy":  {Kind: api.EvOrder, Acc: 3, Inst: 1, Side: api.Buy, Q: 10, P: 250},
			"sell": {Kind: api.EvOrder, Acc: 3, Inst: 1, Side: api.Sell, Q: 10, P: 250},
		}},
	} {
		for _, side := range all {
			if e, right := c.want[side]; right {
				checkText(t, e, c.line(side))
			} else {
				checkNone(t, "a side", c.line(side))
			}
			m.checkParse(t, []byte(c.line(side)))
		}
	}
}

func TestParseOfTooFewAndTooManyWords(t *testing.T) {
	for _, s := range shapes() {
		for _, e := range s.bases() {
			words := strings.Split(s.line(e, nil), " ")
			for n := range words {
				checkNone(t, "words that end too soon", strings.Join(words[:n], " "))
				checkNone(t, "a blank too much", strings.Join(slices.Insert(slices.Clone(words), n, ""), " "))
				checkNone(t, "a word less", strings.Join(slices.Delete(slices.Clone(words), n, n+1), " "))
			}
			for _, more := range []string{"", "0", "1", "-1", "buy", "house", "wind", s.word} {
				checkNone(t, "a word more", strings.Join(append(slices.Clone(words), more), " "))
				checkNone(t, "a word ahead", strings.Join(append([]string{more}, words...), " "))
			}
		}
	}
}

func TestParseOfAnotherKindsWord(t *testing.T) {
	m := newModel()
	for _, s := range m.shapes {
		for _, e := range s.bases() {
			line := s.line(e, nil)
			for _, other := range m.shapes {
				m.checkParse(t, []byte(other.word+strings.TrimPrefix(line, s.word)))
			}
		}
	}
}

func TestParseOfOtherBytes(t *testing.T) {
	m := newModel()
	for _, s := range m.shapes {
		for _, e := range s.bases() {
			b := []byte(s.line(e, nil))
			m.checkParse(t, b)
			for i := range b {
				m.checkParse(t, b[:i])
				m.checkParse(t, b[i:])
				m.checkParse(t, slices.Concat(b[:i], b[i+1:]))
			}
			for x := range 256 {
				for i := range b {
					other := bytes.Clone(b)
					other[i] = byte(x)
					m.checkParse(t, other)
				}
			}
			for _, x := range []byte(" \t\n\r\x00+-.019_aehx\x7f\x80\xa0\xff") {
				for i := range len(b) + 1 {
					m.checkParse(t, slices.Concat(b[:i], []byte{x}, b[i:]))
				}
			}
			checkNone(t, "it twice", string(b)+string(b))
			checkNone(t, "it twice, a blank between", string(b)+" "+string(b))
		}
	}
}

func TestParseOfBytesBeyondAscii(t *testing.T) {
	for x := 128; x < 256; x++ {
		checkNone(t, "a byte", string([]byte{byte(x)}))
		for _, line := range []string{"wind", "tick 3", "open 1 2 house", "bid 2 9 -1"} {
			for i := range len(line) + 1 {
				checkNone(t, "a byte beyond 127 between", line[:i]+string([]byte{byte(x)})+line[i:])
			}
			for i := range line {
				checkNone(t, "a byte with 128 more", line[:i]+string([]byte{line[i] + 128})+line[i+1:])
			}
		}
	}
}

func TestParseOfLongLines(t *testing.T) {
	for _, size := range []int{api.MaxLine - 1, api.MaxLine, api.MaxLine + 1, 200, 1000, api.MaxRoom} {
		for _, line := range []string{"", "wind", "wind ", "tick 3", "tick 3 ", "tick ", "bid 2 9 -", "deposit 1 1", "order 3 0 buy 10 250", "order 3 0 "} {
			for _, fill := range []string{"0", "9", " ", "x", "\x00", "\xff", "-", "\n"} {
				checkNone(t, "a long line", line+strings.Repeat(fill, size-len(line)))
				checkNone(t, "a long line", strings.Repeat(fill, size-len(line))+line)
			}
		}
		checkNone(t, "noughts ahead up to a length", "tick "+strings.Repeat("0", size-6)+"3")
		checkNone(t, "blanks between up to a length", "tick"+strings.Repeat(" ", size-5)+"3")
	}
}

func TestParseOfNoise(t *testing.T) {
	m := newModel()
	n := noise(8)
	letters := []byte(" 0123456789-+ windhegbuyslotrckm")
	for range 20_000 {
		b := make([]byte, n.below(12))
		for i := range b {
			b[i] = byte(n.next())
			if n.below(16) > 0 {
				b[i] = letters[n.below(len(letters))]
			}
		}
		m.checkParse(t, b)
	}
	words := []string{"", "0", "1", "2", "3", "12", "13", "24", "-1", "-0", "01", "house", "client", "buy", "sell"}
	right := 0
	for range 60_000 {
		line := m.shapes[n.below(len(m.shapes))].word
		for range n.below(7) {
			line += " " + words[n.below(len(words))]
		}
		m.checkParse(t, []byte(line))
		if _, code := Parse([]byte(line)); code == api.OK {
			right++
		}
	}
	if right < 1000 {
		t.Error("few lines of noise are right:", right)
	}
}

func TestLineOfAnEventIsItsOwn(t *testing.T) {
	seen := map[string]api.Event{}
	n := noise(3)
	for _, s := range shapes() {
		for range 2000 {
			e := s.event(func(f bound) int64 { return n.within(f.least, min(f.most, f.least+30)) })
			text, code := Text(e)
			if got, is := Parse([]byte(text)); code != api.OK || got != e || is != api.OK {
				t.Errorf("8.3: %+v is told as %q, %d, and parsed as %+v, %d", e, text, code, got, is)
			}
			if other, there := seen[text]; there && other != e {
				t.Errorf("8.3: %+v and %+v have the same line", e, other)
			}
			seen[text] = e
		}
	}
}

func TestParseOfAllShortOnes(t *testing.T) {
	found := 0
	var all func(front string, more int)
	all = func(front string, more int) {
		if e, code := Parse([]byte(front)); code == api.OK {
			found++
			if text, _ := Text(e); text != front {
				t.Errorf("8.3: what is parsed of %q is told as %q", front, text)
			}
		} else if e != (api.Event{}) || code != api.ErrForm {
			t.Errorf("8.2: Parse(%q) = %+v, %d", front, e, code)
		}
		if more > 0 {
			for _, x := range []byte("wind tck03-\x80") {
				all(front+string([]byte{x}), more-1)
			}
		}
	}
	for _, c := range []struct {
		front string
		more  int
		want  int
	}{
		{"", 4, 1},          // wind
		{"wind", 3, 1},      // itself
		{"tick", 3, 3},      // 3, 30, 33
		{"bid 3 3 ", 3, 11}, // 0, 3, and what has one or two digits behind it, -3, -30, -33
		{"bid 3 3", 3, 9},   // 0, 3, 30, 33, -3, and of the lots 30 and 33 0 and 3
		{"limit 3", 3, 4},   // 0, 3, 30, 33
	} {
		found = 0
		all(c.front, c.more)
		if found != c.want {
			t.Errorf("8.3: from %q on %d lines are parsed, want %d", c.front, found, c.want)
		}
	}
}

func TestWhatIsHandedInStays(t *testing.T) {
	for _, s := range shapes() {
		for _, e := range s.bases() {
			line := s.line(e, nil)
			for _, ahead := range []string{"", "x", " "} {
				for _, behind := range []string{"", "0", " 1", strings.Repeat(" 7", 100)} {
					all := []byte(ahead + line + behind)
					before := bytes.Clone(all)
					b := all[len(ahead):][:len(line)]
					if got, code := Parse(b); got != e || code != api.OK {
						t.Errorf("8.2: Parse(%q) with room behind it = %+v, %d", b, got, code)
					}
					Parse(all)
					if !bytes.Equal(all, before) {
						t.Errorf("R4: Parse turned %q to %q", before, all)
					}
				}
			}
		}
	}
}

func TestAnswersHangOnNothingElse(t *testing.T) {
	b := []byte("bid 2 9 -1")
	e, code := Parse(b)
	copy(b, "wind      ")
	if want := (api.Event{Kind: api.EvBid, Member: 2, Id: 9, P: -1}); e != want || code != api.OK {
		t.Errorf("R4: what was parsed hangs on what its bytes became: %+v, %d", e, code)
	}
	for _, s := range shapes() {
		for _, e := range s.bases() {
			text, _ := Text(e)
			spoiled := []byte(text)
			for i := range spoiled {
				spoiled[i] ^= 0x55
			}
			Parse(spoiled)
			if again, code := Text(e); again != s.line(e, nil) || text != again || code != api.OK {
				t.Errorf("R1: Text(%+v) = %q, then %q, %d", e, text, again, code)
			}
			if Word(e.Kind) != s.word {
				t.Errorf("R1: Word(%d) = %q", e.Kind, Word(e.Kind))
			}
		}
	}
	if e, code := Parse(nil); e != (api.Event{}) || code != api.ErrForm {
		t.Errorf("R3: Parse(nil) = %+v, %d", e, code)
	}
}
