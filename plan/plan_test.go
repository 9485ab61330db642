package plan

import (
	"bytes"
	"math"
	"math/big"
	"reflect"
	"slices"
	"testing"

	"novation/api"
)

const (
	billion  = 1_000_000_000
	trillion = 1_000_000_000_000
	million  = 1_000_000
)

// noise is a plain sequence of numbers, the same in each run.
type noise uint64

func (s *noise) next() uint32 {
	*s = *s*6364136223846793005 + 1442695040888963407
	x := uint64(*s)
	x ^= x >> 29
	x *= 0xbf58476d1ce4e5b9
	return uint32(x >> 32)
}

// below is a number from 0 on that is less than n.
func (s *noise) below(n int) int { return int(s.next() % uint32(n)) }

// int64 is a number of any size and sign.
func (s *noise) int64() int64 {
	x := uint64(s.next())<<32 | uint64(s.next())
	return int64(x) >> s.below(64)
}

// within is a number from least to most, short ones as often as long ones.
func (s *noise) within(least, most int64) int64 {
	x := s.int64()
	if x < 0 {
		x = ^x
	}
	// The longest row of numbers, all from 0 on, has 2^63.
	return least + int64(uint64(x)%(uint64(most-least)+1))
}

// field is a number of a config, with its bounds and its place.
type field struct {
	name        string
	least, most int64
	get         func(c api.Config) int64
	set         func(c *api.Config, x int64)
}

// instFields is those of the instrument at a place, in the order of their bytes.
func instFields(i int) []field {
	return []field{
		{"Bucket", 0, 3, func(c api.Config) int64 { return int64(c.Insts[i].Bucket) }, func(c *api.Config, x int64) { c.Insts[i].Bucket = int(x) }},
		{"Price", 1, trillion, func(c api.Config) int64 { return c.Insts[i].Price }, func(c *api.Config, x int64) { c.Insts[i].Price = x }},
		{"Rate", 0, billion, func(c api.Config) int64 { return c.Insts[i].Rate }, func(c *api.Config, x int64) { c.Insts[i].Rate = x }},
		{"Slip", 0, billion, func(c api.Config) int64 { return c.Insts[i].Slip }, func(c *api.Config, x int64) { c.Insts[i].Slip = x }},
	}
}

// fields is those of a config with n instruments, in the order of their bytes.
func fields(n int) []field {
	var l []field
	for i := range n {
		l = append(l, instFields(i)...)
	}
	return append(l,
		field{"Skin", 0, math.MaxInt64, func(c api.Config) int64 { return c.Skin }, func(c *api.Config, x int64) { c.Skin = x }},
		field{"Times", 0, 4, func(c api.Config) int64 { return int64(c.Times) }, func(c *api.Config, x int64) { c.Times = int(x) }},
		field{"Port", 0, million, func(c api.Config) int64 { return c.Port }, func(c *api.Config, x int64) { c.Port = x }},
		field{"Bid", 0, million, func(c api.Config) int64 { return c.Bid }, func(c *api.Config, x int64) { c.Bid = x }},
		field{"LotSize", 1, 1 << 62, func(c api.Config) int64 { return c.LotSize }, func(c *api.Config, x int64) { c.LotSize = x }},
		field{"HedgeMin", 0, math.MaxInt64, func(c api.Config) int64 { return c.HedgeMin }, func(c *api.Config, x int64) { c.HedgeMin = x }},
	)
}

// config is one with n instruments whose fields pick chooses.
func config(n int, pick func(field) int64) api.Config {
	c := api.Config{Insts: make([]api.Inst, n)}
	for _, f := range fields(n) {
		f.set(&c, pick(f))
	}
	return c
}

func leastOf(f field) int64 { return f.least }
func mostOf(f field) int64  { return f.most }

// bases is right configs with n instruments: of the least values, of the greatest, of some between.
func bases(n int) []api.Config {
	var s noise
	between := func(f field) int64 { return s.within(f.least, f.most) }
	return []api.Config{config(n, leastOf), config(n, mostOf), config(n, between), config(n, between), config(n, between)}
}

// clone is a config that shares nothing with c.
func clone(c api.Config) api.Config {
	c.Insts = slices.Clone(c.Insts)
	return c
}

// with is another config, of which one field is x.
func with(c api.Config, f field, x int64) api.Config {
	c = clone(c)
	f.set(&c, x)
	return c
}

// alike is Same's model.
func alike(a, b api.Config) bool {
	if len(a.Insts) == 0 && len(b.Insts) == 0 {
		a.Insts, b.Insts = nil, nil
	}
	return reflect.DeepEqual(a, b)
}

// modelRight is 7.1 with its numbers written out.
func modelRight(c api.Config) bool {
	n := len(c.Insts)
	if n < 1 || n > 6 {
		return false
	}
	return !slices.ContainsFunc(fields(n), func(f field) bool { return f.get(c) < f.least || f.get(c) > f.most })
}

// modelNumber is 6.2's bytes of n, reckoned by numbers of any size.
func modelNumber(n *big.Int) []byte {
	x := new(big.Int).Lsh(n, 1)
	if n.Sign() < 0 {
		x.Sub(x.Neg(x), big.NewInt(1))
	}
	var b []byte
	for {
		seven := new(big.Int)
		x.DivMod(x, big.NewInt(128), seven)
		if x.Sign() == 0 {
			return append(b, byte(seven.Int64()))
		}
		b = append(b, byte(128+seven.Int64()))
	}
}

func number(n int64) []byte { return modelNumber(big.NewInt(n)) }

// parts is the bytes of how many instruments there are, and those of each field.
func parts(c api.Config) [][]byte {
	n := len(c.Insts)
	l := [][]byte{number(int64(n))}
	for _, f := range fields(n) {
		l = append(l, number(f.get(c)))
	}
	return l
}

func modelPut(c api.Config) []byte { return slices.Concat(parts(c)...) }

// looseNumber takes a number of as many bytes as say that more are behind them, whatever it comes to.
func looseNumber(b []byte) (*big.Int, []byte) {
	end := slices.IndexFunc(b, func(x byte) bool { return x < 128 }) + 1
	if end == 0 {
		end = len(b)
	}
	x := new(big.Int)
	for _, seven := range slices.Backward(b[:end]) {
		x.Add(x.Lsh(x, 7), big.NewInt(int64(seven%128)))
	}
	half := new(big.Int).Rsh(x, 1)
	if x.Bit(0) == 1 {
		half.Not(half)
	}
	return half, b[end:]
}

// modelRead guesses the one config whose bytes these may be, and tells whether they are.
func modelRead(b []byte) (api.Config, api.Errno) {
	count, rest := looseNumber(b)
	if !count.IsInt64() || count.Int64() < 1 || count.Int64() > 6 {
		return api.Config{}, api.ErrBad
	}
	n := int(count.Int64())
	c := api.Config{Insts: make([]api.Inst, n)}
	for _, f := range fields(n) {
		var x *big.Int
		x, rest = looseNumber(rest)
		if !x.IsInt64() {
			return api.Config{}, api.ErrBad
		}
		f.set(&c, x.Int64())
	}
	if !modelRight(c) || !bytes.Equal(modelPut(c), b) {
		return api.Config{}, api.ErrBad
	}
	return c, api.OK
}

// checkConfig holds Right and Put of a config, and Read of its bytes, against the model.
func checkConfig(t *testing.T, c api.Config) {
	t.Helper()
	right := modelRight(c)
	if got := Right(c); got != right {
		t.Errorf("7.1: Right(%+v) = %v, want %v", c, got, right)
	}
	b, code := Put(c)
	if !right {
		if len(b) != 0 || code != api.ErrForm {
			t.Errorf("7.2: Put(%+v) = % x, %d, want ErrForm", c, b, code)
		}
		return
	}
	if want := modelPut(c); !bytes.Equal(b, want) || code != api.OK {
		t.Errorf("7.2: Put(%+v) = % x, %d, want % x", c, b, code, want)
	}
	if got, code := Read(b); !alike(got, c) || code != api.OK {
		t.Errorf("7.3: Read(% x) = %+v, %d, want %+v", b, got, code, c)
	}
}

// checkRead holds Read against the model, and what is read against what is put.
func checkRead(t *testing.T, b []byte) {
	t.Helper()
	before := bytes.Clone(b)
	want, wantCode := modelRead(b)
	got, code := Read(b)
	if !alike(got, want) || code != wantCode {
		t.Errorf("7.2: Read(% x) = %+v, %d, want %+v, %d", b, got, code, want, wantCode)
	}
	if !bytes.Equal(b, before) {
		t.Errorf("R4: Read turned % x to % x", before, b)
	}
	if code != api.OK {
		return
	}
	if again, code := Put(got); !bytes.Equal(again, b) || code != api.OK {
		t.Errorf("7.3: what is read of % x is put as % x, %d", b, again, code)
	}
}

// checkBad holds that these bytes are no config's.
func checkBad(t *testing.T, what string, b []byte) {
	t.Helper()
	if got, code := Read(b); !alike(got, api.Config{}) || code != api.ErrBad {
		t.Errorf("7.2: Read of %s, % x = %+v, %d, want ErrBad", what, b[:min(len(b), 200)], got, code)
	}
}

// example is the chapter's.
func example() api.Config {
	return api.Config{Insts: []api.Inst{{Bucket: 0, Price: 5, Rate: 1, Slip: 0}}, LotSize: 1}
}

// pair has two instruments, and no two fields alike that are side by side.
func pair() api.Config {
	return api.Config{
		Insts: []api.Inst{{Bucket: 1, Price: 64, Rate: 63, Slip: 8192}, {Bucket: 3, Price: 2, Rate: 0, Slip: 9}},
		Skin:  1, Times: 2, Port: 3, Bid: 4, LotSize: 5, HedgeMin: 6,
	}
}

// edges is values of note for a field: those at its bounds, those beyond them, and those that are within them in fewer bits alone.
func edges(f field) []int64 {
	l := []int64{0, 1, 2, 3, -1, -2, math.MinInt64, math.MinInt64 + 1, math.MaxInt64, math.MaxInt64 - 1}
	for _, x := range []int64{f.least, f.most} {
		l = append(l, x, -x, x-1, x+1, x+1<<8, x+1<<16, x+1<<32, x+math.MinInt64)
	}
	return l
}

// wrongs is configs of which one field alone is beyond its bounds, by as little as may be, or by much.
func wrongs() []api.Config {
	var l []api.Config
	for n := 1; n <= api.MaxInsts; n++ {
		for _, base := range bases(n) {
			for _, f := range fields(n) {
				l = append(l, with(base, f, f.least-1), with(base, f, math.MinInt64))
				if f.most < math.MaxInt64 {
					l = append(l, with(base, f, f.most+1), with(base, f, math.MaxInt64))
				}
			}
		}
	}
	return l
}

func TestRightByHand(t *testing.T) {
	for _, c := range []api.Config{
		example(),
		pair(),
		{Insts: []api.Inst{{Price: 1}}, LotSize: 1},
		{Insts: []api.Inst{{Bucket: api.MaxBuckets - 1, Price: api.MaxPrice, Rate: api.MaxRate, Slip: api.MaxRate}}, Skin: math.MaxInt64, Times: api.MaxTimes, Port: api.MaxTicks, Bid: api.MaxTicks, LotSize: 1 << 62, HedgeMin: math.MaxInt64},
		{Insts: slices.Repeat([]api.Inst{{Price: 1}}, api.MaxInsts), LotSize: 1},
	} {
		if !Right(c) {
			t.Errorf("7.1: Right(%+v) = false", c)
		}
	}
	one := []api.Inst{{Price: 1}}
	for _, c := range []api.Config{
		{},
		{LotSize: 1},
		{Insts: []api.Inst{}, LotSize: 1},
		{Insts: one},
		{Insts: []api.Inst{{}}, LotSize: 1},
		{Insts: []api.Inst{{Price: 1, Bucket: api.MaxBuckets}}, LotSize: 1},
		{Insts: []api.Inst{{Price: 1, Bucket: -1}}, LotSize: 1},
		{Insts: []api.Inst{{Price: -1}}, LotSize: 1},
		{Insts: []api.Inst{{Price: api.MaxPrice + 1}}, LotSize: 1},
		{Insts: []api.Inst{{Price: 1, Rate: -1}}, LotSize: 1},
		{Insts: []api.Inst{{Price: 1, Rate: api.MaxRate + 1}}, LotSize: 1},
		{Insts: []api.Inst{{Price: 1, Slip: -1}}, LotSize: 1},
		{Insts: []api.Inst{{Price: 1, Slip: api.MaxRate + 1}}, LotSize: 1},
		{Insts: []api.Inst{{Price: 1}, {}}, LotSize: 1},
		{Insts: one, LotSize: 1, Skin: -1},
		{Insts: one, LotSize: 1, Times: -1},
		{Insts: one, LotSize: 1, Times: api.MaxTimes + 1},
		{Insts: one, LotSize: 1, Port: -1},
		{Insts: one, LotSize: 1, Port: api.MaxTicks + 1},
		{Insts: one, LotSize: 1, Bid: -1},
		{Insts: one, LotSize: 1, Bid: api.MaxTicks + 1},
		{Insts: one, LotSize: -1},
		{Insts: one, LotSize: 1<<62 + 1},
		{Insts: one, LotSize: 1, HedgeMin: -1},
		{Insts: slices.Repeat(one, api.MaxInsts+1), LotSize: 1},
	} {
		if b, code := Put(c); Right(c) || len(b) != 0 || code != api.ErrForm {
			t.Errorf("7.1: %+v is right, or put: % x, %d", c, b, code)
		}
	}
}

func TestEachFieldAtItsEdges(t *testing.T) {
	for n := 1; n <= api.MaxInsts; n++ {
		for _, base := range bases(n) {
			if !Right(base) {
				t.Errorf("7.1: Right(%+v) = false", base)
			}
			checkConfig(t, base)
			for _, f := range fields(n) {
				for _, x := range edges(f) {
					c := with(base, f, x)
					if got, want := Right(c), x >= f.least && x <= f.most; got != want {
						t.Errorf("7.1: Right(%+v) = %v, with %s %d", c, got, f.name, x)
					}
					checkConfig(t, c)
				}
			}
		}
	}
}

func TestWrongConfigsAreNotPut(t *testing.T) {
	for _, c := range wrongs() {
		if b, code := Put(c); Right(c) || len(b) != 0 || code != api.ErrForm {
			t.Errorf("7.1, 7.2: %+v is right, or put: % x, %d", c, b, code)
		}
	}
}

func TestHowManyInstruments(t *testing.T) {
	for n := range 40 {
		for _, c := range bases(n) {
			want := n >= 1 && n <= 6
			if got := Right(c); got != want {
				t.Errorf("7.1: Right with %d instruments is %v", n, got)
			}
			checkConfig(t, c)
		}
	}
	for _, n := range []int{255, 256, 257, 65537, 1 << 20} {
		c := example()
		c.Insts = slices.Repeat(c.Insts, n)
		if b, code := Put(c); Right(c) || len(b) != 0 || code != api.ErrForm || len(Bucket(c, 0)) != 0 {
			t.Errorf("7.1: %d instruments are right, or put: %d bytes, %d", n, len(b), code)
		}
	}
}

func TestConfigsOfNoise(t *testing.T) {
	var s noise
	for range 5000 {
		n := s.below(8)
		checkConfig(t, config(n, func(f field) int64 {
			if s.below(30) == 0 {
				return s.int64()
			}
			return s.within(f.least, f.most)
		}))
	}
}

// checkSame holds Same of two against the model, whichever is named first.
func checkSame(t *testing.T, a, b api.Config, want bool) {
	t.Helper()
	if alike(a, b) != want {
		t.Fatalf("%+v and %+v", a, b)
	}
	if Same(a, b) != want || Same(b, a) != want {
		t.Errorf("7.1: Same of %+v and %+v is %v, %v, want %v", a, b, Same(a, b), Same(b, a), want)
	}
}

func TestSameOfOneOtherField(t *testing.T) {
	var l []api.Config
	for n := range api.MaxInsts + 3 {
		l = append(l, bases(n)...)
	}
	for _, c := range append(l, api.Config{}, example(), pair()) {
		checkSame(t, c, c, true)
		checkSame(t, c, clone(c), true)
		for _, f := range fields(len(c.Insts)) {
			x := f.get(c)
			for _, d := range []int64{1, -1, 1 << 8, 1 << 32, math.MinInt64} {
				checkSame(t, c, with(c, f, x+d), false)
			}
			// Not right, yet alike.
			checkSame(t, with(c, f, -5), with(c, f, -5), true)
			checkSame(t, with(c, f, math.MinInt64), with(c, f, math.MinInt64), true)
		}
	}
}

func TestSameOfOtherInstruments(t *testing.T) {
	for n := range api.MaxInsts + 3 {
		for _, c := range bases(n) {
			more := clone(c)
			more.Insts = append(more.Insts, api.Inst{})
			checkSame(t, c, more, false)
			for i := range n {
				twice, less := clone(c), clone(c)
				twice.Insts = slices.Insert(twice.Insts, i, twice.Insts[i])
				less.Insts = slices.Delete(less.Insts, i, i+1)
				checkSame(t, c, twice, false)
				checkSame(t, c, less, false)
			}
		}
	}
	turned := pair()
	slices.Reverse(turned.Insts)
	checkSame(t, pair(), turned, false)
}

func TestSameLooksAtWhatIsThereAlone(t *testing.T) {
	none, room := api.Config{Skin: 3}, api.Config{Skin: 3, Insts: make([]api.Inst, 0, 9)}
	checkSame(t, none, room, true)
	roomy := pair()
	roomy.Insts = append(make([]api.Inst, 0, 50), roomy.Insts...)
	roomy.Insts[:50][2] = api.Inst{Price: 7}
	checkSame(t, pair(), roomy, true)
	// Two fields that are exchanged.
	checkSame(t, api.Config{Port: 1, Bid: 2}, api.Config{Port: 2, Bid: 1}, false)
	checkSame(t, api.Config{Skin: 1, HedgeMin: 2}, api.Config{Skin: 2, HedgeMin: 1}, false)
	checkSame(t, api.Config{Insts: []api.Inst{{Rate: 1, Slip: 2}}}, api.Config{Insts: []api.Inst{{Rate: 2, Slip: 1}}}, false)
}

// noBuckets is numbers that are no bucket, some of which are one in fewer bits.
func noBuckets() []int {
	return []int{-1, -2, -3, -4, 4, 5, 6, 100, 255, 256, 257, 1 << 32, 1<<32 + 1, -1 << 32, math.MaxInt64, math.MinInt64, math.MinInt64 + 1}
}

// modelBucket is 7.1's places of a right config.
func modelBucket(c api.Config, bucket int) []int {
	var l []int
	for i := range c.Insts {
		if c.Insts[i].Bucket == bucket {
			l = append(l, i)
		}
	}
	return l
}

func TestBucketByHand(t *testing.T) {
	c := api.Config{LotSize: 1}
	for _, bucket := range []int{3, 0, 3, 1, 3, 0} {
		c.Insts = append(c.Insts, api.Inst{Bucket: bucket, Price: 1})
	}
	for bucket, want := range [][]int{{1, 5}, {3}, {}, {0, 2, 4}, {}} {
		if got := Bucket(c, bucket); !slices.Equal(got, want) {
			t.Errorf("7.1: Bucket(%d) = %v, want %v", bucket, got, want)
		}
	}
	if got := Bucket(example(), 0); !slices.Equal(got, []int{0}) {
		t.Errorf("7.1: Bucket(0) of the example = %v", got)
	}
}

func TestBucketsOfAllConfigs(t *testing.T) {
	// Each way to give buckets to as many instruments.
	for n := 1; n <= api.MaxInsts; n++ {
		for way := range 1 << (2 * n) {
			c := config(n, leastOf)
			for i := range n {
				c.Insts[i].Bucket = way >> (2 * i) & 3
			}
			for bucket := range api.MaxBuckets {
				if got, want := Bucket(c, bucket), modelBucket(c, bucket); !slices.Equal(got, want) {
					t.Fatalf("7.1: Bucket(%+v, %d) = %v, want %v", c, bucket, got, want)
				}
			}
		}
	}
}

func TestBucketOfNumbersThatAreNone(t *testing.T) {
	for n := 1; n <= api.MaxInsts; n++ {
		for _, c := range bases(n) {
			for _, bucket := range noBuckets() {
				if got := Bucket(c, bucket); len(got) != 0 {
					t.Errorf("7.1: Bucket(%+v, %d) = %v", c, bucket, got)
				}
			}
		}
	}
}

func TestBucketOfConfigsThatAreNotRight(t *testing.T) {
	l := append(wrongs(), api.Config{}, api.Config{Insts: []api.Inst{}, LotSize: 1})
	for n := api.MaxInsts + 1; n < api.MaxInsts+4; n++ {
		l = append(l, bases(n)...)
	}
	for _, bucket := range noBuckets() {
		c := example()
		c.Insts[0].Bucket = bucket
		l = append(l, c)
	}
	for _, c := range l {
		for _, bucket := range append(noBuckets(), 0, 1, 2, 3) {
			if got := Bucket(c, bucket); len(got) != 0 {
				t.Errorf("R7: Bucket(%+v, %d) = %v", c, bucket, got)
			}
		}
	}
}

func TestPutByHand(t *testing.T) {
	most := []byte{0xfe, 0xff, 0xff, 0xff, 0xff, 0xff, 0xff, 0xff, 0xff, 1}
	for _, x := range []struct {
		c    api.Config
		want []byte
	}{
		{example(), []byte{2, 0, 0x0a, 2, 0, 0, 0, 0, 0, 2, 0}},
		{pair(), []byte{4, 2, 0x80, 1, 0x7e, 0x80, 0x80, 1, 6, 4, 0, 18, 2, 4, 6, 8, 10, 12}},
		{
			api.Config{Insts: []api.Inst{{Bucket: 3, Price: api.MaxPrice, Rate: api.MaxRate, Slip: api.MaxRate}}, Skin: math.MaxInt64, Times: 4, Port: api.MaxTicks, Bid: api.MaxTicks, LotSize: 1 << 62, HedgeMin: math.MaxInt64},
			slices.Concat([]byte{2, 6}, []byte{0x80, 0xc0, 0xa8, 0xca, 0x9a, 0x3a}, []byte{0x80, 0xa8, 0xd6, 0xb9, 7}, []byte{0x80, 0xa8, 0xd6, 0xb9, 7},
				most, []byte{8}, []byte{0x80, 0x89, 0x7a}, []byte{0x80, 0x89, 0x7a}, []byte{0x80, 0x80, 0x80, 0x80, 0x80, 0x80, 0x80, 0x80, 0x80, 1}, most),
		},
	} {
		if got, code := Put(x.c); !bytes.Equal(got, x.want) || code != api.OK {
			t.Errorf("7.2: Put(%+v) = % x, %d, want % x", x.c, got, code, x.want)
		}
		if got, code := Read(x.want); !alike(got, x.c) || code != api.OK {
			t.Errorf("7.2: Read(% x) = %+v, %d, want %+v", x.want, got, code, x.c)
		}
	}
}

func TestPutFitsIntoARecord(t *testing.T) {
	if b, code := Put(config(api.MaxInsts, mostOf)); code != api.OK || len(b) == 0 || len(b) > api.MaxRecord {
		t.Errorf("7.2: the longest config has %d bytes, %d", len(b), code)
	}
}

func TestReadOfNoneByHand(t *testing.T) {
	for _, x := range []struct {
		what string
		b    []byte
	}{
		{"no bytes", nil},
		{"an empty list", []byte{}},
		{"a count alone", []byte{2}},
		{"a count that doesn't end", []byte{0x82}},
		{"no instruments", []byte{0, 0, 0, 0, 0, 2, 0}},
		{"nought in two bytes", []byte{0x80, 0, 0, 0, 0, 0, 2, 0}},
		{"-1 instruments", []byte{1, 0, 0, 0, 0, 2, 0}},
		{"-1 instruments, and one", []byte{1, 0, 0x0a, 2, 0, 0, 0, 0, 0, 2, 0}},
		{"no instruments, and one", []byte{0, 0, 0x0a, 2, 0, 0, 0, 0, 0, 2, 0}},
		{"two instruments, but one", []byte{4, 0, 0x0a, 2, 0, 0, 0, 0, 0, 2, 0}},
		{"one instrument, but two", []byte{2, 0, 2, 0, 0, 0, 2, 0, 0, 0, 0, 0, 0, 2, 0}},
		{"a count in two bytes", []byte{0x82, 0, 0, 0x0a, 2, 0, 0, 0, 0, 0, 2, 0}},
		{"a price in a byte too much", []byte{2, 0, 0x8a, 0, 2, 0, 0, 0, 0, 0, 2, 0}},
		{"the last number in a byte too much", []byte{2, 0, 0x0a, 2, 0, 0, 0, 0, 0, 2, 0x80, 0}},
		{"the last number without its end", []byte{2, 0, 0x0a, 2, 0, 0, 0, 0, 0, 2, 0x80}},
		{"one byte less", []byte{2, 0, 0x0a, 2, 0, 0, 0, 0, 0, 2}},
		{"one byte more", []byte{2, 0, 0x0a, 2, 0, 0, 0, 0, 0, 2, 0, 0}},
		{"no price", []byte{2, 0, 0, 2, 0, 0, 0, 0, 0, 2, 0}},
		{"bucket 4", []byte{2, 8, 0x0a, 2, 0, 0, 0, 0, 0, 2, 0}},
		{"a rate of -1", []byte{2, 0, 0x0a, 1, 0, 0, 0, 0, 0, 2, 0}},
		{"5 times", []byte{2, 0, 0x0a, 2, 0, 0, 10, 0, 0, 2, 0}},
		{"no lot size", []byte{2, 0, 0x0a, 2, 0, 0, 0, 0, 0, 0, 0}},
		{"one instrument and 2^63", []byte{0x82, 0x80, 0x80, 0x80, 0x80, 0x80, 0x80, 0x80, 0x80, 2, 0, 0x0a, 2, 0, 0, 0, 0, 0, 2, 0}},
		{"the bits of a price of 5 and 2^70", []byte{2, 0, 0x8a, 0x80, 0x80, 0x80, 0x80, 0x80, 0x80, 0x80, 0x80, 0x80, 1, 2, 0, 0, 0, 0, 0, 2, 0}},
	} {
		checkBad(t, x.what, x.b)
		checkRead(t, x.b)
	}
}

// noCounts is numbers of instruments that no config has, some of which are one in fewer bits, or beyond an int64.
func noCounts() []*big.Int {
	var l []*big.Int
	for _, x := range []int64{0, -1, -2, -6, 7, 8, 13, 64, 100, 255, 1 << 31, 1 << 32, math.MaxInt64, math.MinInt64} {
		l = append(l, big.NewInt(x))
	}
	for bit := 8; bit < 80; bit++ {
		for x := range int64(8) {
			great := new(big.Int).Lsh(big.NewInt(1), uint(bit))
			l = append(l, new(big.Int).Add(great, big.NewInt(x)), new(big.Int).Sub(big.NewInt(x), great))
		}
	}
	return l
}

func TestReadOfCountsThatNoConfigHas(t *testing.T) {
	for n := 1; n <= api.MaxInsts; n++ {
		for _, c := range bases(n) {
			behind := slices.Concat(parts(c)[1:]...)
			for _, count := range noCounts() {
				checkBad(t, "a count", append(modelNumber(count), behind...))
			}
			for count := 1; count <= api.MaxInsts; count++ {
				b := append(number(int64(count)), behind...)
				checkRead(t, b)
				if count > n {
					checkBad(t, "too few instruments", b)
				}
			}
		}
	}
	// As many instruments as are told, but more than there may be.
	for n := api.MaxInsts + 1; n < 200; n++ {
		checkBad(t, "too many instruments", modelPut(config(n, leastOf)))
	}
	checkBad(t, "no instruments", modelPut(config(0, leastOf)))
}

// placed is the bytes of a config in which other bytes stand for one of its numbers.
func placed(c api.Config, at int, other []byte) []byte {
	l := parts(c)
	l[at] = other
	return slices.Concat(l...)
}

// longer is a number with noughts behind it, so that it has n bytes more than it needs.
func longer(number []byte, n int) []byte {
	r := bytes.Clone(number)
	for range n {
		r[len(r)-1] |= 0x80
		r = append(r, 0)
	}
	return r
}

// beyond is the bits of a right number with one more that 64 bits don't hold.
func beyond(number []byte, bit int) []byte {
	r := bytes.Clone(number)
	for len(r) <= bit/7 {
		r[len(r)-1] |= 0x80
		r = append(r, 0)
	}
	r[bit/7] |= 1 << (bit % 7)
	return r
}

func TestReadOfNumbersThatAreNone(t *testing.T) {
	for _, n := range []int{1, 2, 6} {
		for _, c := range bases(n) {
			for at, number := range parts(c) {
				for extra := 1; extra <= 12; extra++ {
					checkBad(t, "a number that is longer than it may be", placed(c, at, longer(number, extra)))
				}
				for bit := 64; bit < 90; bit++ {
					checkBad(t, "a number that 64 bits can't hold", placed(c, at, beyond(number, bit)))
				}
				open := bytes.Clone(number)
				open[len(open)-1] |= 0x80
				checkRead(t, placed(c, at, open))
				checkBad(t, "a number that doesn't end, the last one", slices.Concat(slices.Concat(parts(c)[:at]...), open))
				for _, size := range []int{1, 8, 9, 10, 11, 100, 1000} {
					ahead := slices.Concat(parts(c)[:at]...)
					checkBad(t, "ones that don't end", append(bytes.Clone(ahead), bytes.Repeat([]byte{0xff}, size)...))
					checkBad(t, "noughts that don't end", append(bytes.Clone(ahead), bytes.Repeat([]byte{0x80}, size)...))
					checkRead(t, placed(c, at, bytes.Repeat([]byte{0x80}, size)))
				}
				checkRead(t, placed(c, at, nil))
			}
		}
	}
}

func TestReadOfNumbersBeyondTheirBounds(t *testing.T) {
	for n := 1; n <= api.MaxInsts; n++ {
		for _, c := range bases(n) {
			for i, f := range fields(n) {
				for _, x := range edges(f) {
					b := placed(c, i+1, number(x))
					if x < f.least || x > f.most {
						checkBad(t, f.name+" beyond its bounds", b)
					} else if got, code := Read(b); !alike(got, with(c, f, x)) || code != api.OK {
						t.Errorf("7.2: Read(% x) = %+v, %d, with %s %d", b, got, code, f.name, x)
					}
				}
				for bit := 63; bit < 80; bit++ {
					great := new(big.Int).Lsh(big.NewInt(1), uint(bit))
					checkBad(t, f.name+" beyond an int64", placed(c, i+1, modelNumber(great)))
					checkBad(t, f.name+" below an int64", placed(c, i+1, modelNumber(new(big.Int).Sub(big.NewInt(-1), great))))
					checkBad(t, f.name+" and more than an int64", placed(c, i+1, modelNumber(great.Add(great, big.NewInt(f.get(c))))))
				}
			}
		}
	}
}

func TestReadOfOtherBytes(t *testing.T) {
	l := []api.Config{example(), pair()}
	for _, n := range []int{1, 3, 6} {
		l = append(l, bases(n)[:3]...)
	}
	for _, c := range l {
		b := modelPut(c)
		for n := range b {
			checkBad(t, "a front", b[:n])
			checkRead(t, b[n+1:])
		}
		for x := range 256 {
			checkBad(t, "one byte more", append(bytes.Clone(b), byte(x)))
			checkRead(t, append([]byte{byte(x)}, b...))
			for i := range b {
				other := bytes.Clone(b)
				other[i] = byte(x)
				checkRead(t, other)
			}
		}
		for i := range b {
			checkRead(t, slices.Concat(b[:i], b[i+1:]))
			checkRead(t, slices.Concat(b[:i], []byte{0x80}, b[i:]))
			checkRead(t, slices.Concat(b[:i], []byte{0}, b[i:]))
		}
		checkBad(t, "it twice", slices.Concat(b, b))
	}
}

func TestReadOfNoise(t *testing.T) {
	var s noise
	for range 30_000 {
		b := make([]byte, s.below(24))
		for i := range b {
			b[i] = byte(s.next())
			if s.below(4) > 0 {
				b[i] = byte(2 * s.below(5))
			}
		}
		checkRead(t, b)
	}
	checkBad(t, "many ones", bytes.Repeat([]byte{0xff}, api.MaxRoom))
	checkBad(t, "many noughts", make([]byte, api.MaxRoom))
	checkBad(t, "many bytes of 1", bytes.Repeat([]byte{2}, api.MaxRoom))
	checkBad(t, "many bytes behind a count", append([]byte{12}, bytes.Repeat([]byte{0x80}, api.MaxRoom)...))
	checkBad(t, "many bytes behind a config", append(modelPut(example()), make([]byte, api.MaxRoom)...))
}

func TestReadOfAllSmallOnes(t *testing.T) {
	// One instrument, all numbers in a byte: of each byte some that are within bounds and some that aren't.
	choices := [][]byte{{1, 2}, {6, 7, 8}, {0, 2}, {1, 2}, {0, 1}, {0, 1}, {8, 9, 10}, {0, 1}, {0, 3}, {0, 2}, {0, 1, 2}}
	read, all := 0, 1
	for _, c := range choices {
		all *= len(c)
	}
	for way := range all {
		b := make([]byte, len(choices))
		for i, c := range choices {
			b[i] = c[way%len(c)]
			way /= len(c)
		}
		checkRead(t, b)
		if _, code := Read(b); code == api.OK {
			read++
		}
	}
	// Each byte but the last has one value that is right, and the last has two.
	if read != 2 {
		t.Errorf("7.3: %d of them are read, want 2", read)
	}
}

func TestBytesOfAConfigAreItsOwn(t *testing.T) {
	seen := map[string]api.Config{}
	hold := func(c api.Config) {
		t.Helper()
		b, code := Put(c)
		if got, is := Read(b); code != api.OK || !Same(got, c) || is != api.OK {
			t.Errorf("7.3: %+v is put as % x, %d, and read as %+v, %d", c, b, code, got, is)
		}
		if other, there := seen[string(b)]; there && !alike(other, c) {
			t.Errorf("7.3: %+v and %+v have the same bytes", c, other)
		}
		seen[string(b)] = c
	}
	var s noise
	for n := 1; n <= api.MaxInsts; n++ {
		for _, c := range bases(n) {
			hold(c)
			for _, f := range fields(n) {
				for range 20 {
					hold(with(c, f, s.within(f.least, f.most)))
				}
			}
		}
	}
}

// ask makes every call of a config, and answers nothing.
func ask(c api.Config) {
	Right(c)
	Put(c)
	Same(c, c)
	for bucket := -1; bucket <= api.MaxBuckets; bucket++ {
		Bucket(c, bucket)
	}
}

func TestWhatIsHandedInStays(t *testing.T) {
	l := append(wrongs(), example(), pair())
	for n := range api.MaxInsts + 3 {
		l = append(l, bases(n)...)
	}
	for _, c := range l {
		n := len(c.Insts)
		roomy := append(clone(c).Insts, api.Inst{Bucket: 1, Price: 2, Rate: 3, Slip: 4}, api.Inst{Bucket: 5})
		before := slices.Clone(roomy)
		c.Insts = roomy[:n]
		ask(c)
		if !slices.Equal(roomy, before) {
			t.Errorf("R4: %v became %v", before, roomy)
		}
	}
}

func TestReadLeavesWhatIsHandedIn(t *testing.T) {
	whole := modelPut(config(api.MaxInsts, mostOf))
	for n := range len(whole) + 1 {
		roomy := bytes.Clone(whole)
		Read(roomy[:n])
		if !bytes.Equal(roomy, whole) {
			t.Errorf("R4: Read of %d bytes turned % x to % x", n, whole, roomy)
		}
	}
}

// spoil writes over bytes and their spare room.
func spoil(b []byte) {
	for i := range b[:cap(b)] {
		b[:cap(b)][i] ^= 0x55
	}
}

func TestPutAnswersNewMemory(t *testing.T) {
	for n := 1; n <= api.MaxInsts; n++ {
		for _, c := range bases(n) {
			one, _ := Put(c)
			two, _ := Put(c)
			spoil(one)
			three, _ := Put(c)
			if want := modelPut(c); !bytes.Equal(two, want) || !bytes.Equal(three, want) {
				t.Errorf("R4: answers of Put(%+v) share memory", c)
			}
		}
	}
}

func TestReadAnswersNewMemory(t *testing.T) {
	for n := 1; n <= api.MaxInsts; n++ {
		for _, c := range bases(n) {
			b := modelPut(c)
			one, _ := Read(b)
			two, _ := Read(b)
			for i := range one.Insts[:cap(one.Insts)] {
				one.Insts[:cap(one.Insts)][i] = api.Inst{Bucket: 9, Price: -9}
			}
			three, _ := Read(b)
			spoil(b)
			if !alike(two, c) || !alike(three, c) {
				t.Errorf("R4: answers of Read share memory: %+v, %+v, want %+v", two, three, c)
			}
		}
	}
}

func TestBucketAnswersNewMemory(t *testing.T) {
	for n := 1; n <= api.MaxInsts; n++ {
		c := config(n, leastOf)
		want := modelBucket(c, 0)
		one, two := Bucket(c, 0), Bucket(c, 0)
		for i := range one[:cap(one)] {
			one[:cap(one)][i] = -7
		}
		if three := Bucket(c, 0); !slices.Equal(two, want) || !slices.Equal(three, want) {
			t.Errorf("R4: answers of Bucket share memory: %v, %v, want %v", two, three, want)
		}
	}
}
