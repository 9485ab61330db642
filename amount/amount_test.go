package amount

import (
	"math"
	"math/big"
	"slices"
	"testing"
)

const (
	least = math.MinInt64
	most  = math.MaxInt64
	// root is the greatest number whose square an int64 can hold.
	root = 3037000499
)

// edges are numbers around every place where a result may leave an int64.
func edges() []int64 {
	l := []int64{0, 1, 2, 3, 7, 10, 1000003, root - 1, root, root + 1, least, most}
	for k := 1; k < 63; k++ {
		p := int64(1) << k
		l = append(l, p-1, p, p+1)
	}
	for _, d := range []int64{1, 2, 3} {
		l = append(l, most-d, least+d, most/(d+1), most/(d+1)+1, least/(d+1))
	}
	for _, x := range slices.Clone(l) {
		if x != least {
			l = append(l, -x)
		}
	}
	slices.Sort(l)
	return slices.Compact(l)
}

// held is what a call must tell of an exact result.
func held(x *big.Int) (int64, bool) {
	if !x.IsInt64() {
		return 0, false
	}
	return x.Int64(), true
}

// noise is a plain sequence of numbers of all sizes, the same in each run.
type noise uint64

func (s *noise) next() int64 {
	*s = *s*6364136223846793005 + 1442695040888963407
	x := uint64(*s)
	x ^= x >> 29
	x *= 0xbf58476d1ce4e5b9
	x ^= x >> 32
	return int64(x) >> (uint64(*s) >> 58)
}

// pairCalls are the calls of two numbers, each with the exact one.
func pairCalls() []struct {
	name  string
	call  func(a, b int64) (int64, bool)
	exact func(z, a, b *big.Int) *big.Int
} {
	return []struct {
		name  string
		call  func(a, b int64) (int64, bool)
		exact func(z, a, b *big.Int) *big.Int
	}{
		{"Add", Add, (*big.Int).Add},
		{"Sub", Sub, (*big.Int).Sub},
		{"Mul", Mul, (*big.Int).Mul},
	}
}

// checkPair holds all calls of two numbers against the exact ones.
func checkPair(t *testing.T, a, b int64) {
	t.Helper()
	for _, c := range pairCalls() {
		want, wantOk := held(c.exact(new(big.Int), big.NewInt(a), big.NewInt(b)))
		if got, ok := c.call(a, b); got != want || ok != wantOk {
			t.Errorf("1.1: %s(%d, %d) = %d, %v, want %d, %v", c.name, a, b, got, ok, want, wantOk)
		}
	}
}

func TestPairsAtEdges(t *testing.T) {
	l := edges()
	for _, a := range l {
		for _, b := range l {
			checkPair(t, a, b)
		}
	}
}

func TestPairsOfAllSizes(t *testing.T) {
	var s noise
	for range 50000 {
		checkPair(t, s.next(), s.next())
	}
}

func TestPairsByHand(t *testing.T) {
	type row struct {
		a, b, want int64
		ok         bool
	}
	rows := map[string][]row{
		"Add": {{2, 3, 5, true}, {-2, 3, 1, true}, {0, 0, 0, true}, {most, 0, most, true}, {most, 1, 0, false}, {1, most, 0, false}, {most - 1, 1, most, true}, {least, -1, 0, false}, {least + 1, -1, least, true}, {least, most, -1, true}, {least, least, 0, false}, {most, most, 0, false}, {-1 << 62, -1 << 62, least, true}, {1 << 62, 1 << 62, 0, false}},
		"Sub": {{2, 3, -1, true}, {-2, -3, 1, true}, {least, 0, least, true}, {least, 1, 0, false}, {least + 1, 1, least, true}, {most, -1, 0, false}, {most - 1, -1, most, true}, {0, least, 0, false}, {-1, least, most, true}, {least, least, 0, true}, {-1, most, least, true}, {-2, most, 0, false}},
		"Mul": {{6, 7, 42, true}, {-6, 7, -42, true}, {-6, -7, 42, true}, {0, least, 0, true}, {least, 1, least, true}, {least, -1, 0, false}, {-1, least, 0, false}, {most, -1, least + 1, true}, {root, root, root * root, true}, {root + 1, root + 1, 0, false}, {-1 << 62, 2, least, true}, {1 << 62, 2, 0, false}, {-1 << 62, -2, 0, false}, {1 << 32, 1 << 32, 0, false}, {least, least, 0, false}},
	}
	for _, c := range pairCalls() {
		for _, r := range rows[c.name] {
			if got, ok := c.call(r.a, r.b); got != r.want || ok != r.ok {
				t.Errorf("1.1: %s(%d, %d) = %d, %v, want %d, %v", c.name, r.a, r.b, got, ok, r.want, r.ok)
			}
		}
	}
}

func TestNeg(t *testing.T) {
	for _, a := range edges() {
		want, wantOk := held(new(big.Int).Neg(big.NewInt(a)))
		if got, ok := Neg(a); got != want || ok != wantOk {
			t.Errorf("1.1: Neg(%d) = %d, %v, want %d, %v", a, got, ok, want, wantOk)
		}
	}
	if got, ok := Neg(least); got != 0 || ok {
		t.Error("1.1: the least int64 has an opposite:", got, ok)
	}
	if got, ok := Neg(most); got != least+1 || !ok {
		t.Error("1.1: Neg of the greatest:", got, ok)
	}
}

func TestSize(t *testing.T) {
	for _, a := range edges() {
		if got, want := Size(a), new(big.Int).Abs(big.NewInt(a)).Uint64(); got != want {
			t.Errorf("1.1: Size(%d) = %d, want %d", a, got, want)
		}
	}
	if got := Size(least); got != 1<<63 {
		t.Error("1.1: Size of the least:", got)
	}
}

// checkSum holds Sum against the exact one, and what it was handed against what it was.
func checkSum(t *testing.T, l []int64) {
	t.Helper()
	before := slices.Clone(l)
	exact := new(big.Int)
	for _, x := range l {
		exact.Add(exact, big.NewInt(x))
	}
	want, wantOk := held(exact)
	if got, ok := Sum(l); got != want || ok != wantOk {
		t.Errorf("1.2: Sum(%v) = %d, %v, want %d, %v", l, got, ok, want, wantOk)
	}
	if !slices.Equal(l, before) {
		t.Errorf("R4: Sum turned %v to %v", before, l)
	}
}

// many is n times x.
func many(x int64, n int) []int64 {
	return slices.Repeat([]int64{x}, n)
}

func TestSumByHand(t *testing.T) {
	for _, c := range []struct {
		l    []int64
		want int64
		ok   bool
	}{
		{nil, 0, true},
		{[]int64{}, 0, true},
		{[]int64{5}, 5, true},
		{[]int64{1, 2, 3, -10}, -4, true},
		{[]int64{most}, most, true},
		{[]int64{least}, least, true},
		{[]int64{most, 1}, 0, false},
		{[]int64{least, -1}, 0, false},
		{[]int64{most, 1, -1}, most, true},
		{[]int64{least, -1, 1}, least, true},
		{[]int64{most, least}, -1, true},
		{[]int64{most, most, 2}, 0, false},
		{[]int64{least, least}, 0, false},
		{[]int64{least, least, most, most, 2}, 0, true},
		{[]int64{most, most, most, least, least, least, 3}, 0, true},
		{many(least, 4), 0, false},
		{many(most, 9), 0, false},
	} {
		if got, ok := Sum(c.l); got != c.want || ok != c.ok {
			t.Errorf("1.2: Sum(%v) = %d, %v, want %d, %v", c.l, got, ok, c.want, c.ok)
		}
		checkSum(t, c.l)
	}
}

func TestSumFarOutAndBack(t *testing.T) {
	const n = 5000
	for _, end := range []int64{0, 1, -1, most - 1, most, least, least + 1} {
		up := append(many(most, n), many(-most, n)...)
		down := append(many(least, n), many(1<<62, 2*n)...)
		for _, l := range [][]int64{up, down} {
			l = append(l, end)
			if got, ok := Sum(l); got != end || !ok {
				t.Errorf("1.2: Sum far out and back to %d = %d, %v", end, got, ok)
			}
		}
	}
}

func TestSumOfAllSizes(t *testing.T) {
	l := edges()
	for _, a := range l {
		for _, b := range l {
			checkSum(t, []int64{a, b})
			checkSum(t, []int64{most, a, b})
			checkSum(t, []int64{a, least, b})
		}
	}
	var s noise
	for n := range 400 {
		r := make([]int64, n%40)
		for i := range r {
			r[i] = s.next()
		}
		checkSum(t, r)
	}
}

func TestLeastByHand(t *testing.T) {
	for _, c := range []struct {
		l  []int64
		at int
		ok bool
	}{
		{nil, 0, false},
		{[]int64{}, 0, false},
		{[]int64{0}, 0, true},
		{[]int64{most}, 0, true},
		{[]int64{4, 3, 2, 1}, 3, true},
		{[]int64{1, 2, 3}, 0, true},
		{[]int64{5, -5, 0, -5}, 1, true},
		{[]int64{2, 2, 2}, 0, true},
		{[]int64{9, 4, 4, 9, 4}, 1, true},
		{[]int64{0, most, least}, 2, true},
		{[]int64{most, least, least + 1, least}, 1, true},
		{[]int64{most, most}, 0, true},
		{[]int64{least, least}, 0, true},
	} {
		before := slices.Clone(c.l)
		if at, ok := Least(c.l); at != c.at || ok != c.ok {
			t.Errorf("1.2: Least(%v) = %d, %v, want %d, %v", c.l, at, ok, c.at, c.ok)
		}
		if !slices.Equal(c.l, before) {
			t.Errorf("R4: Least turned %v to %v", before, c.l)
		}
	}
}

func TestLeastIsTheFirstOfTheLeast(t *testing.T) {
	var s noise
	for n := 1; n < 300; n++ {
		l := make([]int64, n)
		for i := range l {
			l[i] = s.next() >> 58
		}
		if at, ok := Least(l); !ok || at != slices.Index(l, slices.Min(l)) {
			t.Errorf("1.2: Least(%v) = %d, %v", l, at, ok)
		}
	}
}

// checkBack holds 1.3 of two numbers: by Add and Sub both ways, by Neg, and by Sum.
func checkBack(t *testing.T, a, b int64) {
	t.Helper()
	if sum, ok := Add(a, b); ok {
		if back, ok := Sub(sum, b); back != a || !ok {
			t.Errorf("1.3: %d and %d, less %d: %d, %v", a, b, b, back, ok)
		}
	}
	if diff, ok := Sub(a, b); ok {
		if back, ok := Add(diff, b); back != a || !ok {
			t.Errorf("1.3: %d less %d, and %d: %d, %v", a, b, b, back, ok)
		}
	}
	if opposite, ok := Neg(b); ok {
		if back, ok := Sum([]int64{a, b, opposite}); back != a || !ok {
			t.Errorf("1.3: the sum of %d, %d and its opposite: %d, %v", a, b, back, ok)
		}
	}
}

func TestWhatIsAddedIsTakenAwayAgain(t *testing.T) {
	l := edges()
	for _, a := range l {
		for _, b := range l {
			checkBack(t, a, b)
		}
	}
	var s noise
	for range 50000 {
		checkBack(t, s.next(), s.next())
	}
}

func TestWhatIsAddedIsTakenAwayAgainByHand(t *testing.T) {
	// Sums that an int64 can hold, so that none of them may be refused on the way.
	for _, c := range [][2]int64{{5, 7}, {5, -7}, {0, 0}, {most - 1, 1}, {most, 0}, {0, most}, {least, 0}, {0, least}, {least + 1, -1}, {least, most}, {most, least}, {-1 << 62, -1 << 62}} {
		sum, added := Add(c[0], c[1])
		back, taken := Sub(sum, c[1])
		if back != c[0] || !added || !taken {
			t.Errorf("1.3: %d and %d, less %d: %d, %v, %v", c[0], c[1], c[1], back, added, taken)
		}
	}
}
