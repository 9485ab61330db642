package wide

import (
	"math"
	"math/big"
	"slices"
	"testing"

	"novation/api"
)

const (
	least = math.MinInt64
	most  = math.MaxInt64
	full  = math.MaxUint64
)

// w is a number by its two words.
func w(hi int64, lo uint64) api.Wide { return api.Wide{Hi: hi, Lo: lo} }

// exact is the number as one of any length.
func exact(x api.Wide) *big.Int {
	n := new(big.Int).Lsh(big.NewInt(x.Hi), 64)
	return n.Add(n, new(big.Int).SetUint64(x.Lo))
}

// held is what a call must tell of an exact result.
func held(n *big.Int) (api.Wide, bool) {
	lo := new(big.Int).And(n, new(big.Int).SetUint64(full))
	hi := new(big.Int).Rsh(n, 64)
	if !hi.IsInt64() {
		return api.Wide{}, false
	}
	return w(hi.Int64(), lo.Uint64()), true
}

// smallEdges are numbers around every place where a result may leave an int64 or a word.
func smallEdges() []int64 {
	l := []int64{0, 1, 2, 3, 5, 7, 10, 1000003, 3037000499, 3037000500, 4294967295, 1 << 31, 1 << 32, 1<<32 + 1, 1 << 61, 1 << 62, 1<<62 - 1, 1<<62 + 1, most/3 + 1, most / 3, most - 2, most - 1, most}
	for _, x := range slices.Clone(l) {
		l = append(l, -x)
	}
	l = append(l, least, least+1)
	slices.Sort(l)
	return slices.Compact(l)
}

// edges are numbers around every place where a result may leave a Wide, or go from one word to the other.
func edges() []api.Wide {
	highs := []int64{0, 1, 2, 3, 1 << 31, 1 << 32, 1 << 61, 1<<62 - 1, 1 << 62, 1<<62 + 1, most/3 + 1, most / 3, most - 1, most, -1, -2, -3, -1 << 32, -1 << 61, -1 << 62, -1<<62 - 1, -1<<62 + 1, least / 3, least + 1, least}
	lows := []uint64{0, 1, 2, 6, 1 << 32, most - 1, most, 1 << 63, 1<<63 + 1, full / 3, full - 1, full}
	var l []api.Wide
	for _, hi := range highs {
		for _, lo := range lows {
			l = append(l, w(hi, lo))
		}
	}
	return l
}

// noise is a plain sequence of numbers of all sizes, the same in each run.
type noise uint64

func (s *noise) next() int64 {
	*s = *s*6364136223846793005 + 1442695040888963407
	x := uint64(*s)
	x ^= x >> 29
	x *= 0xbf58476d1ce4e5b9
	x ^= x >> 32
	return int64(x) >> (uint64(*s) >> 58)
}

func (s *noise) wide() api.Wide {
	return w(s.next(), uint64(s.next()))
}

func TestOfAndInt(t *testing.T) {
	for _, x := range smallEdges() {
		if got := exact(Of(x)); got.Cmp(big.NewInt(x)) != 0 {
			t.Errorf("2.1: Of(%d) is %v", x, got)
		}
		if got, ok := Int(Of(x)); got != x || !ok {
			t.Errorf("2.1: Int(Of(%d)) = %d, %v", x, got, ok)
		}
	}
	for x, want := range map[int64]api.Wide{0: w(0, 0), 1: w(0, 1), -1: w(-1, full), most: w(0, most), least: w(-1, 1<<63)} {
		if got := Of(x); got != want {
			t.Errorf("2.1: Of(%d) = %v, want %v", x, got, want)
		}
	}
}

func TestIntOfWhatItCantHold(t *testing.T) {
	for _, x := range []api.Wide{w(0, most+1), w(0, full), w(-1, most), w(-1, 0), w(1, 0), w(1, 5), w(-2, full), w(-2, 1<<63), w(1, full), w(most, full), w(least, 0)} {
		if got, ok := Int(x); got != 0 || ok {
			t.Errorf("2.1: Int(%v) = %d, %v", x, got, ok)
		}
	}
	for _, x := range edges() {
		n := exact(x)
		got, ok := Int(x)
		if ok != n.IsInt64() || ok && got != n.Int64() || !ok && got != 0 {
			t.Errorf("2.1: Int(%v) = %d, %v", x, got, ok)
		}
	}
}

func TestSign(t *testing.T) {
	for x, want := range map[api.Wide]int{w(0, 0): 0, w(0, 1): 1, w(0, full): 1, w(1, 0): 1, w(most, full): 1, w(-1, full): -1, w(-1, 0): -1, w(least, 0): -1, w(least, full): -1} {
		if got := Sign(x); got != want {
			t.Errorf("2.1: Sign(%v) = %d, want %d", x, got, want)
		}
	}
	for _, x := range edges() {
		if got, want := Sign(x), exact(x).Sign(); got != want {
			t.Errorf("2.1: Sign(%v) = %d, want %d", x, got, want)
		}
	}
}

func TestCmp(t *testing.T) {
	rising := []api.Wide{w(least, 0), w(least, 1), w(least, full), w(-2, full), w(-1, 0), w(-1, 1<<63), w(-1, full), w(0, 0), w(0, 1), w(0, most), w(0, 1<<63), w(0, full), w(1, 0), w(1, full), w(most, 0), w(most, full)}
	for i, a := range rising {
		for k, b := range rising {
			want := 0
			if i < k {
				want = -1
			}
			if i > k {
				want = 1
			}
			if got := Cmp(a, b); got != want {
				t.Errorf("2.1: Cmp(%v, %v) = %d, want %d", a, b, got, want)
			}
		}
	}
	for _, a := range edges() {
		for _, b := range edges() {
			if got, want := Cmp(a, b), exact(a).Cmp(exact(b)); got != want {
				t.Errorf("2.1: Cmp(%v, %v) = %d, want %d", a, b, got, want)
			}
		}
	}
}

// checkPair holds Add and Sub against the exact ones.
func checkPair(t *testing.T, a, b api.Wide) {
	t.Helper()
	n, m := exact(a), exact(b)
	want, wantOk := held(new(big.Int).Add(n, m))
	if got, ok := Add(a, b); got != want || ok != wantOk {
		t.Errorf("2.2: Add(%v, %v) = %v, %v, want %v, %v", a, b, got, ok, want, wantOk)
	}
	want, wantOk = held(new(big.Int).Sub(n, m))
	if got, ok := Sub(a, b); got != want || ok != wantOk {
		t.Errorf("2.2: Sub(%v, %v) = %v, %v, want %v, %v", a, b, got, ok, want, wantOk)
	}
}

func TestAddAndSubAtEdges(t *testing.T) {
	l := edges()
	for _, a := range l {
		for _, b := range l {
			checkPair(t, a, b)
		}
	}
}

func TestAddAndSubOfAllSizes(t *testing.T) {
	var s noise
	for range 50000 {
		checkPair(t, s.wide(), s.wide())
	}
}

// pair is a call of two numbers, and what it must tell.
type pair struct {
	a, b, want api.Wide
	ok         bool
}

func TestAddByHand(t *testing.T) {
	for _, c := range []pair{
		{w(0, 2), w(0, 3), w(0, 5), true},
		{w(0, 2), w(-1, full), w(0, 1), true},
		{w(0, 1), w(-1, full-1), w(-1, full), true},
		{w(0, full), w(0, 1), w(1, 0), true},
		{w(most, full-1), w(0, 1), w(most, full), true},
		{w(most, full), w(0, 0), w(most, full), true},
		{w(most, full), w(0, 1), w(0, 0), false},
		{w(most, full), w(most, full), w(0, 0), false},
		{w(1<<62, 0), w(1<<62, 0), w(0, 0), false},
		{w(1<<62, 0), w(1<<62-1, full), w(most, full), true},
		{w(-1<<62, 0), w(-1<<62, 0), w(least, 0), true},
		{w(least, 1), w(-1, full), w(least, 0), true},
		{w(least, 0), w(-1, full), w(0, 0), false},
		{w(least, 0), w(least, 0), w(0, 0), false},
		{w(least, 0), w(most, full), w(-1, full), true},
	} {
		for _, in := range [][2]api.Wide{{c.a, c.b}, {c.b, c.a}} {
			if got, ok := Add(in[0], in[1]); got != c.want || ok != c.ok {
				t.Errorf("2.2: Add(%v, %v) = %v, %v, want %v, %v", in[0], in[1], got, ok, c.want, c.ok)
			}
		}
	}
}

func TestSubByHand(t *testing.T) {
	for _, c := range []pair{
		{w(0, 2), w(0, 3), w(-1, full), true},
		{w(1, 0), w(0, 1), w(0, full), true},
		{w(0, 0), w(1, 0), w(-1, 0), true},
		{w(least, 1), w(0, 1), w(least, 0), true},
		{w(least, 0), w(0, 1), w(0, 0), false},
		{w(most, full-1), w(-1, full), w(most, full), true},
		{w(most, full), w(-1, full), w(0, 0), false},
		{w(0, 0), w(least, 0), w(0, 0), false},
		{w(0, 0), w(least, 1), w(most, full), true},
		{w(-1, full), w(least, 0), w(most, full), true},
		{w(least, 0), w(least, 0), w(0, 0), true},
		{w(-1, full), w(most, full), w(least, 0), true},
		{w(-1, full-1), w(most, full), w(0, 0), false},
	} {
		if got, ok := Sub(c.a, c.b); got != c.want || ok != c.ok {
			t.Errorf("2.2: Sub(%v, %v) = %v, %v, want %v, %v", c.a, c.b, got, ok, c.want, c.ok)
		}
	}
}

// checkOne holds Neg and Abs against the exact ones.
func checkOne(t *testing.T, a api.Wide) {
	t.Helper()
	want, wantOk := held(new(big.Int).Neg(exact(a)))
	if got, ok := Neg(a); got != want || ok != wantOk {
		t.Errorf("2.2: Neg(%v) = %v, %v, want %v, %v", a, got, ok, want, wantOk)
	}
	want, wantOk = held(new(big.Int).Abs(exact(a)))
	if got, ok := Abs(a); got != want || ok != wantOk {
		t.Errorf("2.2: Abs(%v) = %v, %v, want %v, %v", a, got, ok, want, wantOk)
	}
}

func TestNegAndAbs(t *testing.T) {
	for _, a := range edges() {
		checkOne(t, a)
	}
	var s noise
	for range 10000 {
		checkOne(t, s.wide())
	}
	for _, c := range []struct {
		a, opposite, size api.Wide
		ok                bool
	}{
		{w(0, 0), w(0, 0), w(0, 0), true},
		{w(0, 5), w(-1, full-4), w(0, 5), true},
		{w(-1, full), w(0, 1), w(0, 1), true},
		{w(-1, 0), w(1, 0), w(1, 0), true},
		{w(most, full), w(least, 1), w(most, full), true},
		{w(least, 1), w(most, full), w(most, full), true},
		{w(least, 0), w(0, 0), w(0, 0), false},
	} {
		if got, ok := Neg(c.a); got != c.opposite || ok != c.ok {
			t.Errorf("2.2: Neg(%v) = %v, %v, want %v, %v", c.a, got, ok, c.opposite, c.ok)
		}
		if got, ok := Abs(c.a); got != c.size || ok != c.ok {
			t.Errorf("2.2: Abs(%v) = %v, %v, want %v, %v", c.a, got, ok, c.size, c.ok)
		}
	}
}

func TestMul(t *testing.T) {
	check := func(a, b int64) {
		t.Helper()
		want := new(big.Int).Mul(big.NewInt(a), big.NewInt(b))
		if got := Mul(a, b); exact(got).Cmp(want) != 0 {
			t.Errorf("2.2: Mul(%d, %d) = %v, want %v", a, b, got, want)
		}
	}
	for _, a := range smallEdges() {
		for _, b := range smallEdges() {
			check(a, b)
		}
	}
	var s noise
	for range 50000 {
		check(s.next(), s.next())
	}
	for _, c := range []struct {
		a, b int64
		want api.Wide
	}{{6, 7, w(0, 42)}, {-6, 7, w(-1, full-41)}, {-6, -7, w(0, 42)}, {0, -9, w(0, 0)}, {least, 0, w(0, 0)}, {least, least, w(1<<62, 0)}, {least, most, w(-1<<62, 1<<63)}, {least, -1, w(0, 1<<63)}, {most, most, w(1<<62-1, 1)}, {1 << 32, 1 << 32, w(1, 0)}, {-1 << 32, 1 << 32, w(-1, 0)}} {
		for _, in := range [][2]int64{{c.a, c.b}, {c.b, c.a}} {
			if got := Mul(in[0], in[1]); got != c.want {
				t.Errorf("2.2: Mul(%d, %d) = %v, want %v", in[0], in[1], got, c.want)
			}
		}
	}
}

// checkTimes holds Times against the exact one.
func checkTimes(t *testing.T, a api.Wide, k int64) {
	t.Helper()
	want, wantOk := held(new(big.Int).Mul(exact(a), big.NewInt(k)))
	if got, ok := Times(a, k); got != want || ok != wantOk {
		t.Errorf("2.2: Times(%v, %d) = %v, %v, want %v, %v", a, k, got, ok, want, wantOk)
	}
}

func TestTimes(t *testing.T) {
	for _, a := range edges() {
		for _, k := range smallEdges() {
			checkTimes(t, a, k)
		}
	}
	var s noise
	for range 50000 {
		checkTimes(t, s.wide(), s.next())
	}
	for _, c := range []struct {
		a    api.Wide
		k    int64
		want api.Wide
		ok   bool
	}{
		{w(0, 6), 7, w(0, 42), true},
		{w(0, 6), -7, w(-1, full-41), true},
		{w(-1, full-5), -7, w(0, 42), true},
		{w(least, 0), 0, w(0, 0), true},
		{w(-1, full), 0, w(0, 0), true},
		{w(0, 0), least, w(0, 0), true},
		{w(least, 0), 1, w(least, 0), true},
		{w(least, 0), -1, w(0, 0), false},
		{w(most, full), -1, w(least, 1), true},
		{w(most, full), 2, w(0, 0), false},
		{w(1<<62, 0), 2, w(0, 0), false},
		{w(1<<62, 0), -2, w(least, 0), true},
		{w(1<<62, 1), -2, w(0, 0), false},
		{w(-1<<62, 0), 2, w(least, 0), true},
		{w(1<<62-1, full), 2, w(most, full-1), true},
		{w(1, 0), most, w(most, 0), true},
		{w(1, 0), least, w(least, 0), true},
		{w(1, 1), least, w(0, 0), false},
		{w(1, 2), most, w(most, full-1), true},
		{w(-1, 0), least, w(0, 0), false},
		{w(-1, 1), least, w(most, 1<<63), true},
		{w(4, 0), 1 << 62, w(0, 0), false},
		{w(2, full), most, w(0, 0), false},
		{w(least, 0), least, w(0, 0), false},
		{w(most, full), most, w(0, 0), false},
	} {
		if got, ok := Times(c.a, c.k); got != c.want || ok != c.ok {
			t.Errorf("2.2: Times(%v, %d) = %v, %v, want %v, %v", c.a, c.k, got, ok, c.want, c.ok)
		}
	}
}

func TestTimesAroundTheGreatestFactors(t *testing.T) {
	top, bottom := exact(w(most, full)), exact(w(least, 0))
	for _, k := range smallEdges() {
		if k == 0 {
			continue
		}
		for _, end := range []*big.Int{top, bottom} {
			q := new(big.Int).Quo(end, big.NewInt(k))
			for d := int64(-2); d <= 2; d++ {
				if a, ok := held(new(big.Int).Add(q, big.NewInt(d))); ok {
					checkTimes(t, a, k)
				}
			}
		}
	}
}

// checkSum holds Sum against the exact one, and what it was handed against what it was.
func checkSum(t *testing.T, l []api.Wide) {
	t.Helper()
	before := slices.Clone(l)
	n := new(big.Int)
	for _, x := range l {
		n.Add(n, exact(x))
	}
	want, wantOk := held(n)
	if got, ok := Sum(l); got != want || ok != wantOk {
		t.Errorf("2.2: Sum(%v) = %v, %v, want %v, %v", l, got, ok, want, wantOk)
	}
	if !slices.Equal(l, before) {
		t.Errorf("R4: Sum turned %v to %v", before, l)
	}
}

// many is n times x.
func many(x api.Wide, n int) []api.Wide {
	return slices.Repeat([]api.Wide{x}, n)
}

func TestSumByHand(t *testing.T) {
	top, bottom, one, minus := w(most, full), w(least, 0), w(0, 1), w(-1, full)
	for _, c := range []struct {
		l    []api.Wide
		want api.Wide
		ok   bool
	}{
		{nil, w(0, 0), true},
		{[]api.Wide{}, w(0, 0), true},
		{[]api.Wide{w(3, 4)}, w(3, 4), true},
		{[]api.Wide{w(0, 4), minus, w(-1, full-9)}, w(-1, full-6), true},
		{[]api.Wide{w(0, full), w(0, full)}, w(1, full-1), true},
		{[]api.Wide{top}, top, true},
		{[]api.Wide{bottom}, bottom, true},
		{[]api.Wide{top, one}, w(0, 0), false},
		{[]api.Wide{bottom, minus}, w(0, 0), false},
		{[]api.Wide{top, one, minus}, top, true},
		{[]api.Wide{bottom, minus, one}, bottom, true},
		{[]api.Wide{top, bottom}, minus, true},
		{[]api.Wide{bottom, bottom}, w(0, 0), false},
		{[]api.Wide{top, top, w(0, 2)}, w(0, 0), false},
		{[]api.Wide{bottom, bottom, top, top, w(0, 2)}, w(0, 0), true},
		{[]api.Wide{bottom, bottom, bottom, top, top, top}, w(-1, full-2), true},
		{many(bottom, 4), w(0, 0), false},
		{many(top, 9), w(0, 0), false},
	} {
		if got, ok := Sum(c.l); got != c.want || ok != c.ok {
			t.Errorf("2.2: Sum(%v) = %v, %v, want %v, %v", c.l, got, ok, c.want, c.ok)
		}
		checkSum(t, c.l)
	}
}

func TestSumFarOutAndBack(t *testing.T) {
	const n = 5000
	for _, end := range []api.Wide{w(0, 0), w(0, 1), w(-1, full), w(most, full), w(least, 0), w(least, 1)} {
		up := append(many(w(most, full), n), many(w(least, 1), n)...)
		down := append(many(w(least, 0), n), many(w(1<<62, 0), 2*n)...)
		for _, l := range [][]api.Wide{up, down} {
			l = append(l, end)
			if got, ok := Sum(l); got != end || !ok {
				t.Errorf("2.2: Sum far out and back to %v = %v, %v", end, got, ok)
			}
		}
	}
}

func TestSumOfAllSizes(t *testing.T) {
	l := edges()
	for i, a := range l {
		for _, b := range l[i:] {
			checkSum(t, []api.Wide{a, b, w(most, full)})
			checkSum(t, []api.Wide{a, w(least, 0), b})
		}
	}
	var s noise
	for n := range 400 {
		r := make([]api.Wide, n%40)
		for i := range r {
			r[i] = s.wide()
		}
		checkSum(t, r)
	}
}

// checkDiv holds Div against the exact one, and 2.4 of its answer.
func checkDiv(t *testing.T, a api.Wide, d int64) {
	t.Helper()
	got, rest, ok := Div(a, d)
	if d < 1 {
		if got != w(0, 0) || rest != 0 || ok {
			t.Errorf("2.3: Div(%v, %d) = %v, %d, %v", a, d, got, rest, ok)
		}
		return
	}
	// The rest of an exact Euclidean division lies from 0 to d - 1, so that its quotient is rounded down.
	q, m := new(big.Int).DivMod(exact(a), big.NewInt(d), new(big.Int))
	if exact(got).Cmp(q) != 0 || rest != m.Int64() || !ok {
		t.Errorf("2.3: Div(%v, %d) = %v, %d, %v, want %v, %v", a, d, got, rest, ok, q, m)
	}
	checkBack(t, a, d)
}

// checkBack holds 2.4 by the package's own calls: a quotient by the divisor, and the rest, is the number.
func checkBack(t *testing.T, a api.Wide, d int64) {
	t.Helper()
	quotient, rest, divided := Div(a, d)
	if rest < 0 || rest >= d {
		t.Errorf("2.3: the rest of %v by %d is %d", a, d, rest)
	}
	// The quotient by the divisor alone may lie below the least Wide: then the exact number is asked.
	product, fits := Times(quotient, d)
	if !fits {
		n := new(big.Int).Mul(exact(quotient), big.NewInt(d))
		if n.Add(n, big.NewInt(rest)); !divided || n.Cmp(exact(a)) != 0 {
			t.Errorf("2.4: %v by %d, and back: %v, %v", a, d, n, divided)
		}
		return
	}
	if back, added := Add(product, Of(rest)); back != a || !divided || !added {
		t.Errorf("2.4: %v by %d, and back: %v, %v, %v", a, d, back, divided, added)
	}
}

func TestDiv(t *testing.T) {
	for _, a := range edges() {
		for _, d := range smallEdges() {
			checkDiv(t, a, d)
		}
	}
	var s noise
	for range 50000 {
		checkDiv(t, s.wide(), s.next())
	}
	for _, c := range []struct {
		a    api.Wide
		d    int64
		want api.Wide
		rest int64
		ok   bool
	}{
		{w(0, 7), 2, w(0, 3), 1, true},
		{w(-1, full-6), 2, w(-1, full-3), 1, true},
		{w(-1, full), 2, w(-1, full), 1, true},
		{w(-1, full), most, w(-1, full), most - 1, true},
		{w(0, 6), 3, w(0, 2), 0, true},
		{w(-1, full-5), 3, w(-1, full-1), 0, true},
		{w(0, 0), 5, w(0, 0), 0, true},
		{w(0, most-1), most, w(0, 0), most - 1, true},
		{w(0, most), most, w(0, 1), 0, true},
		{w(most, full), 1, w(most, full), 0, true},
		{w(least, 0), 1, w(least, 0), 0, true},
		{w(least, 0), 2, w(-1<<62, 0), 0, true},
		{w(least, 0), most, w(-2, full-2), most - 2, true},
		{w(most, full), most, w(1, 2), 1, true},
		{w(1, 0), 3, w(0, 6148914691236517205), 1, true},
		{w(5, 5), 0, w(0, 0), 0, false},
		{w(5, 5), -1, w(0, 0), 0, false},
		{w(-5, 5), -3, w(0, 0), 0, false},
		{w(least, 0), -1, w(0, 0), 0, false},
		{w(least, 0), 0, w(0, 0), 0, false},
		{w(0, 0), least, w(0, 0), 0, false},
	} {
		if got, rest, ok := Div(c.a, c.d); got != c.want || rest != c.rest || ok != c.ok {
			t.Errorf("2.3: Div(%v, %d) = %v, %d, %v, want %v, %d, %v", c.a, c.d, got, rest, ok, c.want, c.rest, c.ok)
		}
	}
}

func TestQuotientByDivisorAndRestIsTheNumber(t *testing.T) {
	for _, a := range []api.Wide{w(0, 0), w(0, 1), w(0, 17), w(-1, full), w(-1, full-16), w(1, 0), w(-1, 0), w(7, 9), w(-7, 9), w(0, full), w(most, full), w(least, 0), w(least, 1)} {
		for _, d := range []int64{1, 2, 3, 10, 17, 1 << 32, 1<<62 + 1, most - 1, most} {
			checkBack(t, a, d)
		}
	}
	var s noise
	for range 20000 {
		a, d := s.wide(), s.next()
		if d > 0 {
			checkBack(t, a, d)
		}
	}
}
