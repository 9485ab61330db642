package share

import (
	"math"
	"math/big"
	"slices"
	"testing"

	"novation/api"
)

const (
	least = math.MinInt64
	most  = math.MaxInt64
)

// l is a list.
func l(x ...int64) []int64 { return x }

// many is n times x.
func many(x int64, n int) []int64 { return slices.Repeat([]int64{x}, n) }

// noise is a plain sequence of numbers of all sizes, the same in each run.
type noise uint64

func (s *noise) next() int64 {
	*s = *s*6364136223846793005 + 1442695040888963407
	x := uint64(*s)
	x ^= x >> 29
	x *= 0xbf58476d1ce4e5b9
	x ^= x >> 32
	return int64(x) >> (uint64(*s) >> 58)
}

// upTo is a number from 0 to n, small ones as often as great ones.
func (s *noise) upTo(n int64) int64 {
	x := s.next() & most
	if n == most {
		return x
	}
	return x % (n + 1)
}

// list is n numbers from 0 to the bound, of which some are 0.
func (s *noise) list(n int, bound int64) []int64 {
	r := make([]int64, n)
	for i := range r {
		if s.upTo(9) > 1 {
			r[i] = s.upTo(bound)
		}
	}
	return r
}

// bounds are sizes of numbers: so small that many are alike, and so great that MaxShares of them just fit.
func bounds() []int64 { return l(1, 3, 20, 1000, 1<<40, most/api.MaxShares) }

// exactSum is the sum of all, of any length.
func exactSum(w []int64) *big.Int {
	sum := new(big.Int)
	for _, x := range w {
		sum.Add(sum, big.NewInt(x))
	}
	return sum
}

// modelOrder is the places by one search for the first of the greatest after the other.
func modelOrder(x []int64) []int {
	var places []int
	for len(places) < len(x) {
		at := -1
		for i := range x {
			if !slices.Contains(places, i) && (at < 0 || x[i] > x[at]) {
				at = i
			}
		}
		places = append(places, at)
	}
	return places
}

// modelSplit is 3.2 by numbers of any length; the weights' sum must not be 0.
func modelSplit(total int64, w []int64) []int64 {
	sum := exactSum(w)
	shares, rests := make([]int64, len(w)), make([]int64, len(w))
	missing := total
	for i, x := range w {
		product := new(big.Int).Mul(big.NewInt(total), big.NewInt(x))
		quotient, rest := new(big.Int).DivMod(product, sum, new(big.Int))
		shares[i], rests[i] = quotient.Int64(), rest.Int64()
		missing -= shares[i]
	}
	for _, i := range modelOrder(rests)[:missing] {
		shares[i]++
	}
	return shares
}

// modelCapped is 3.3 round by round, with how many rounds there were.
func modelCapped(total int64, w, caps []int64) (shares []int64, left int64, rounds int) {
	shares, left = make([]int64, len(w)), total
	for left > 0 {
		open, none := make([]int64, len(w)), true
		for i := range w {
			if w[i] > 0 && shares[i] < caps[i] {
				open[i], none = w[i], false
			}
		}
		if none {
			break
		}
		rounds++
		var taken int64
		for i, x := range modelSplit(left, open) {
			x = min(x, caps[i]-shares[i])
			shares[i] += x
			taken += x
		}
		left -= taken
	}
	return shares, left, rounds
}

func TestOrderByHand(t *testing.T) {
	for _, c := range []struct {
		l    []int64
		want []int
	}{
		{nil, nil},
		{l(), nil},
		{l(7), []int{0}},
		{l(1, 2, 3), []int{2, 1, 0}},
		{l(3, 2, 1), []int{0, 1, 2}},
		{l(5, 5), []int{0, 1}},
		{l(3, 5, 5, 1, 5, 3), []int{1, 2, 4, 0, 5, 3}},
		{l(0, -1, 1, 0), []int{2, 0, 3, 1}},
		{l(least, most, 0, least, most), []int{1, 4, 2, 0, 3}},
		{l(most-1, most, least+1, least), []int{1, 0, 2, 3}},
	} {
		if got := Order(c.l); !slices.Equal(got, c.want) {
			t.Errorf("3.1: Order(%v) = %v, want %v", c.l, got, c.want)
		}
	}
}

func TestOrderOfManyAlike(t *testing.T) {
	var s noise
	for n := range 150 {
		x := make([]int64, n)
		for i := range x {
			x[i] = s.next() >> 61
		}
		before := slices.Clone(x)
		if got, want := Order(x), modelOrder(x); !slices.Equal(got, want) {
			t.Errorf("3.1: Order(%v) = %v, want %v", x, got, want)
		}
		if !slices.Equal(x, before) {
			t.Errorf("R4: Order turned %v to %v", before, x)
		}
	}
}

func TestOrderOfMoreThanMaxShares(t *testing.T) {
	const n = 20000
	x := make([]int64, n)
	for i := range x {
		x[i] = int64(i % 2)
	}
	for k, place := range Order(x) {
		if want := (2*k + 1) % (n + 1); place != want {
			t.Fatalf("3.1: Order of %d numbers has %d at %d, want %d", n, place, k, want)
		}
	}
}

// splitCase is a call of Split, and what it must tell.
type splitCase struct {
	total   int64
	w, want []int64
	code    api.Errno
}

// checkSplits holds Split against what it must tell, and what it was handed against what it was.
func checkSplits(t *testing.T, cases []splitCase) {
	t.Helper()
	for _, c := range cases {
		before := slices.Clone(c.w)
		if got, code := Split(c.total, c.w); !slices.Equal(got, c.want) || code != c.code {
			t.Errorf("3.2: Split(%d, %v) = %v, %d, want %v, %d", c.total, c.w, got, code, c.want, c.code)
		}
		if !slices.Equal(c.w, before) {
			t.Errorf("R4: Split turned %v to %v", before, c.w)
		}
	}
}

func TestSplitByHand(t *testing.T) {
	checkSplits(t, []splitCase{
		{10, l(1, 1, 1), l(4, 3, 3), api.OK},
		{9, l(1, 1, 1), l(3, 3, 3), api.OK},
		{100, l(50, 30, 20), l(50, 30, 20), api.OK},
		// The rests: 14 3 13, 4 1 5, 1 7 7 7; the missing units: 2, 1, 2.
		{7, l(2, 9, 4), l(1, 4, 2), api.OK},
		{7, l(2, 3, 5), l(1, 2, 4), api.OK},
		{6, l(2, 3, 3, 3), l(1, 2, 2, 1), api.OK},
		{3, l(5, 1, 1, 1, 1), l(2, 1, 0, 0, 0), api.OK},
		{2, l(1, 1, 1, 1), l(1, 1, 0, 0), api.OK},
		{1, l(1, 2, 2), l(0, 1, 0), api.OK},
		{5, l(0, 1, 0, 1, 0), l(0, 3, 0, 2, 0), api.OK},
		{1, l(0, 7), l(0, 1), api.OK},
		{most, l(3), l(most), api.OK},
		{1, l(most), l(1), api.OK},
		{most, l(1, 1), l(1<<62, 1<<62-1), api.OK},
		{most, l(1, 2), l(3074457345618258602, 6148914691236517205), api.OK},
		{most, l(most-1, 1), l(most-1, 1), api.OK},
		{most, l(most, 0), l(most, 0), api.OK},
		{most - 1, l(1, most-1), l(1, most-2), api.OK},
	})
}

func TestSplitOfZero(t *testing.T) {
	checkSplits(t, []splitCase{
		{0, nil, nil, api.OK},
		{0, l(), nil, api.OK},
		{0, l(0), l(0), api.OK},
		{0, l(0, 0, 0), l(0, 0, 0), api.OK},
		{0, l(3, 4), l(0, 0), api.OK},
		{0, l(most), l(0), api.OK},
		{0, make([]int64, api.MaxShares), make([]int64, api.MaxShares), api.OK},
		{0, make([]int64, api.MaxShares+1), nil, api.ErrForm},
		{0, l(least), nil, api.ErrForm},
		{0, l(1, -1), nil, api.ErrForm},
		{0, l(most, 1), nil, api.ErrOver},
	})
}

func TestSplitOfWhatMayNotBe(t *testing.T) {
	checkSplits(t, []splitCase{
		{-1, l(1), nil, api.ErrForm},
		{-1, nil, nil, api.ErrForm},
		{least, l(1, 2), nil, api.ErrForm},
		{1, nil, nil, api.ErrForm},
		{1, l(), nil, api.ErrForm},
		{1, l(0), nil, api.ErrForm},
		{most, l(0, 0, 0), nil, api.ErrForm},
		{1, l(-1), nil, api.ErrForm},
		{1, l(2, -1), nil, api.ErrForm},
		{1, l(-1, 2), nil, api.ErrForm},
		{1, l(5, least, 5), nil, api.ErrForm},
		{1, l(-1, 1), nil, api.ErrForm},
		{1, many(1, api.MaxShares+1), nil, api.ErrForm},
	})
}

func TestSplitOfWeightsWhoseSumIsGreat(t *testing.T) {
	nearly := many(most/api.MaxShares, api.MaxShares)
	just := slices.Clone(nearly)
	just[0] += most % api.MaxShares
	above := slices.Clone(just)
	above[api.MaxShares-1]++
	for _, c := range []struct {
		w    []int64
		code api.Errno
	}{
		{l(most), api.OK}, {l(most-1, 1), api.OK}, {l(0, most, 0), api.OK}, {nearly, api.OK}, {just, api.OK},
		{l(most, 1), api.ErrOver}, {l(1, most), api.ErrOver}, {l(1<<62, 1<<62), api.ErrOver}, {above, api.ErrOver}, {many(most, 3), api.ErrOver}, {many(most, api.MaxShares), api.ErrOver},
		// What may not be is told ahead of a sum that can't be.
		{l(most, 1, -1), api.ErrForm}, {l(-1, most, 1), api.ErrForm}, {many(most, api.MaxShares+1), api.ErrForm},
	} {
		for _, total := range l(0, 1, 77, most) {
			var want []int64
			if c.code == api.OK {
				want = modelSplit(total, c.w)
			}
			checkSplits(t, []splitCase{{total, c.w, want, c.code}})
		}
		checkSplits(t, []splitCase{{-1, c.w, nil, api.ErrForm}})
	}
}

func TestSplitOfMaxShares(t *testing.T) {
	full := many(1, api.MaxShares)
	firstTwo := slices.Clone(full)
	firstTwo[0], firstTwo[1] = 2, 2
	lastLess := slices.Clone(full)
	lastLess[api.MaxShares-1] = 0
	checkSplits(t, []splitCase{
		{api.MaxShares, full, full, api.OK},
		{api.MaxShares + 2, full, firstTwo, api.OK},
		{api.MaxShares - 1, full, lastLess, api.OK},
		{api.MaxShares, append(slices.Clone(full), 0), nil, api.ErrForm},
	})
}

func TestSplitOfAllSizes(t *testing.T) {
	var s noise
	for round := range 300 {
		for _, bound := range bounds() {
			w := s.list(1+round%api.MaxShares, bound)
			w[round%len(w)] = 1 + s.upTo(bound-1)
			for _, total := range l(1, s.upTo(100), s.upTo(most), most) {
				checkSplits(t, []splitCase{{total, w, modelSplit(total, w), api.OK}})
			}
		}
	}
}

func TestEven(t *testing.T) {
	firsts := func(n, more int, x int64) []int64 {
		return append(many(x+1, more), many(x, n-more)...)
	}
	for _, c := range []struct {
		total int64
		n     int
		want  []int64
		code  api.Errno
	}{
		{7, 3, l(3, 2, 2), api.OK},
		{6, 3, l(2, 2, 2), api.OK},
		{2, 5, l(1, 1, 0, 0, 0), api.OK},
		{0, 1, l(0), api.OK},
		{0, 4, l(0, 0, 0, 0), api.OK},
		{5, 1, l(5), api.OK},
		{most, 1, l(most), api.OK},
		{most, 2, l(1<<62, 1<<62-1), api.OK},
		{0, api.MaxShares, make([]int64, api.MaxShares), api.OK},
		{api.MaxShares + 5, api.MaxShares, firsts(api.MaxShares, 5, 1), api.OK},
		{most, api.MaxShares, firsts(api.MaxShares, most%api.MaxShares, most/api.MaxShares), api.OK},
		{0, 0, nil, api.ErrForm},
		{1, 0, nil, api.ErrForm},
		{0, -1, nil, api.ErrForm},
		{1, -1, nil, api.ErrForm},
		{1, least, nil, api.ErrForm},
		{0, api.MaxShares + 1, nil, api.ErrForm},
		{1, api.MaxShares + 1, nil, api.ErrForm},
		{1, most, nil, api.ErrForm},
		{-1, 1, nil, api.ErrForm},
		{-1, 0, nil, api.ErrForm},
		{least, api.MaxShares, nil, api.ErrForm},
	} {
		if got, code := Even(c.total, c.n); !slices.Equal(got, c.want) || code != c.code {
			t.Errorf("3.2: Even(%d, %d) = %v, %d, want %v, %d", c.total, c.n, got, code, c.want, c.code)
		}
	}
}

func TestEvenIsSplitByOnes(t *testing.T) {
	var s noise
	for n := 1; n <= api.MaxShares; n++ {
		for _, total := range l(0, 1, int64(n), int64(n)+1, s.upTo(1000), s.upTo(most), most) {
			want, _ := Split(total, many(1, n))
			if got, code := Even(total, n); !slices.Equal(got, want) || code != api.OK {
				t.Errorf("3.2: Even(%d, %d) = %v, %d, want %v", total, n, got, code, want)
			}
		}
	}
}

// cappedCase is a call of Capped, and what it must tell.
type cappedCase struct {
	total         int64
	w, caps, want []int64
	left          int64
	code          api.Errno
}

// checkCapped holds Capped against what it must tell, and what it was handed against what it was.
func checkCapped(t *testing.T, cases []cappedCase) {
	t.Helper()
	for _, c := range cases {
		w, caps := slices.Clone(c.w), slices.Clone(c.caps)
		got, left, code := Capped(c.total, c.w, c.caps)
		if !slices.Equal(got, c.want) || left != c.left || code != c.code {
			t.Errorf("3.3: Capped(%d, %v, %v) = %v, %d, %d, want %v, %d, %d", c.total, c.w, c.caps, got, left, code, c.want, c.left, c.code)
		}
		if !slices.Equal(c.w, w) || !slices.Equal(c.caps, caps) {
			t.Errorf("R4: Capped turned %v, %v to %v, %v", w, caps, c.w, c.caps)
		}
	}
}

func TestCappedByHand(t *testing.T) {
	checkCapped(t, []cappedCase{
		// One round: no cap is met, or met by all at once.
		{10, l(1, 1, 1), l(9, 9, 9), l(4, 3, 3), 0, api.OK},
		{10, l(1, 1, 1), l(4, 3, 3), l(4, 3, 3), 0, api.OK},
		{7, l(2, 9, 4), l(7, 7, 7), l(1, 4, 2), 0, api.OK},
		{1, l(1), l(1), l(1), 0, api.OK},
		// More than one: 2 3 3, then 1 1 more; 10 20 25 25, then 5 10, then 5; 1 1 1, then 2 1, then 1.
		{10, l(1, 1, 1), l(2, 9, 9), l(2, 4, 4), 0, api.OK},
		{100, l(1, 1, 1, 1), l(10, 20, 30, 100), l(10, 20, 30, 40), 0, api.OK},
		{7, l(5, 1, 1), l(1, 9, 2), l(1, 4, 2), 0, api.OK},
		// 2 0 1, then 2 0 more; with the capped 1 set aside ahead of all, the other 4 would be 3 1.
		{5, l(5, 1, 6), l(9, 9, 1), l(4, 0, 1), 0, api.OK},
		// A cap of 0 is not open from the first round on.
		{2, l(1, 1, 1), l(0, 1, 9), l(0, 1, 1), 0, api.OK},
	})
}

func TestCappedWithSomethingOver(t *testing.T) {
	checkCapped(t, []cappedCase{
		{10, l(1, 2), l(3, 4), l(3, 4), 3, api.OK},
		{8, l(1, 2), l(3, 4), l(3, 4), 1, api.OK},
		{7, l(1, 2), l(3, 4), l(3, 4), 0, api.OK},
		{4, l(3, 2, 1), l(1, 1, 1), l(1, 1, 1), 1, api.OK},
		{5, l(0, 1), l(9, 2), l(0, 2), 3, api.OK},
		{5, nil, nil, nil, 5, api.OK},
		{most, l(), l(), nil, most, api.OK},
		{3, l(0, 0), l(5, 5), l(0, 0), 3, api.OK},
		{3, l(1, 1), l(0, 0), l(0, 0), 3, api.OK},
		{3, l(1, 0), l(0, 5), l(0, 0), 3, api.OK},
		{3, l(1, 1), l(0, 5), l(0, 3), 0, api.OK},
		{most, l(1, 1), l(1, 2), l(1, 2), most - 3, api.OK},
		{api.MaxShares + 6, many(1, api.MaxShares), many(1, api.MaxShares), many(1, api.MaxShares), 6, api.OK},
	})
}

func TestCappedOfZeroAndOfGreatOnes(t *testing.T) {
	checkCapped(t, []cappedCase{
		{0, nil, nil, nil, 0, api.OK},
		{0, l(1), l(1), l(0), 0, api.OK},
		{0, l(0, 0), l(0, 0), l(0, 0), 0, api.OK},
		{0, l(5, 5), l(0, most), l(0, 0), 0, api.OK},
		{most, l(1, 1), l(most, most), l(1<<62, 1<<62-1), 0, api.OK},
		{most, l(1, most-1), l(0, most), l(0, most), 0, api.OK},
		{most, l(most), l(most), l(most), 0, api.OK},
		{most, l(most), l(most - 1), l(most - 1), 1, api.OK},
		{most, l(1, 2), l(most, 1<<62), l(1<<62-1, 1<<62), 0, api.OK},
		{5, l(most-1, 1), l(2, most), l(2, 3), 0, api.OK},
	})
}

func TestCappedOfWhatMayNotBe(t *testing.T) {
	checkCapped(t, []cappedCase{
		{-1, l(1), l(1), nil, 0, api.ErrForm},
		{-1, nil, nil, nil, 0, api.ErrForm},
		{least, l(1, 1), l(1, 1), nil, 0, api.ErrForm},
		{1, l(1, -1), l(0, 1), nil, 0, api.ErrForm},
		{0, l(-1), l(1), nil, 0, api.ErrForm},
		{1, l(least, 5), l(1, 1), nil, 0, api.ErrForm},
		{1, l(1, 1), l(0, -1), nil, 0, api.ErrForm},
		{0, l(1, 1), l(-1, 0), nil, 0, api.ErrForm},
		{1, l(1, 0), l(1, least), nil, 0, api.ErrForm},
		{5, l(1), nil, nil, 0, api.ErrForm},
		{5, nil, l(1), nil, 0, api.ErrForm},
		{0, nil, l(0), nil, 0, api.ErrForm},
		{5, l(1, 1), l(9), nil, 0, api.ErrForm},
		{5, l(1, 1), l(9, 9, 9), nil, 0, api.ErrForm},
		{0, l(1, 1), l(9, 9, 0), nil, 0, api.ErrForm},
		{1, many(1, api.MaxShares+1), many(1, api.MaxShares+1), nil, 0, api.ErrForm},
		{0, many(0, api.MaxShares+1), many(0, api.MaxShares+1), nil, 0, api.ErrForm},
		{1, many(1, api.MaxShares+1), many(1, api.MaxShares), nil, 0, api.ErrForm},
		{1, l(most, 1), l(1, 1), nil, 0, api.ErrOver},
		// The sum is that of all weights, of those that are never open, too; and with nothing to give.
		{1, l(most, 1), l(0, 1), nil, 0, api.ErrOver},
		{0, l(most, 1), l(0, 0), nil, 0, api.ErrOver},
		{0, many(most, api.MaxShares), many(1, api.MaxShares), nil, 0, api.ErrOver},
		// What may not be is told ahead of a sum that can't be.
		{-1, l(most, 1), l(1, 1), nil, 0, api.ErrForm},
		{1, l(most, 1, -1), l(1, 1, 1), nil, 0, api.ErrForm},
		{1, l(most, 1), l(1, -1), nil, 0, api.ErrForm},
		{1, l(most, 1), l(1), nil, 0, api.ErrForm},
		{1, many(most, api.MaxShares+1), many(1, api.MaxShares+1), nil, 0, api.ErrForm},
	})
}

// checkCappedFacts holds what follows of 3.3 for any call that is answered OK.
func checkCappedFacts(t *testing.T, total int64, w, caps []int64) {
	t.Helper()
	shares, left, _ := Capped(total, w, caps)
	if whole := exactSum(append(slices.Clone(shares), left)); whole.Cmp(big.NewInt(total)) != 0 {
		t.Errorf("3.3: Capped(%d, %v, %v) = %v, %d comes to %v", total, w, caps, shares, left, whole)
	}
	for i, x := range shares {
		if x < 0 || x > caps[i] || w[i] == 0 && x != 0 {
			t.Errorf("3.3: Capped(%d, %v, %v) gives %d to %d", total, w, caps, x, i)
		}
		if left > 0 && w[i] > 0 && x < caps[i] {
			t.Errorf("3.3: Capped(%d, %v, %v) leaves %d while %d is open", total, w, caps, left, i)
		}
	}
}

func TestCappedOfAllSizes(t *testing.T) {
	var s noise
	mostRounds := 0
	for round := range 400 {
		for _, bound := range bounds() {
			n := round % (api.MaxShares + 1)
			w, caps := s.list(n, bound), s.list(n, min(bound, most/2)*2)
			for _, total := range l(0, 1, s.upTo(bound), s.upTo(most), most) {
				want, left, rounds := modelCapped(total, w, caps)
				mostRounds = max(mostRounds, rounds)
				checkCapped(t, []cappedCase{{total, w, caps, want, left, api.OK}})
				checkCappedFacts(t, total, w, caps)
			}
		}
	}
	if mostRounds < 4 {
		t.Error("3.3: no more rounds than", mostRounds, "were tried")
	}
}

func TestCappedInAsManyRoundsAsThereAreShares(t *testing.T) {
	// Each weight is far above all behind it together, so that each round fills one cap only.
	const n = 10
	w, ones := make([]int64, n), many(1, n)
	for i := range w {
		w[i] = 1 << (6 * (n - 1 - i))
	}
	if _, _, rounds := modelCapped(n, w, ones); rounds != n {
		t.Error("3.3: the rounds are", rounds)
	}
	checkCapped(t, []cappedCase{{n, w, ones, ones, 0, api.OK}, {n + 2, w, ones, ones, 2, api.OK}})
}

// checkWhole holds 3.4 of one call: the shares come to the total, each less than a unit from its part.
func checkWhole(t *testing.T, total int64, w []int64) {
	t.Helper()
	shares, code := Split(total, w)
	if code != api.OK || len(shares) != len(w) {
		t.Errorf("3.4: Split(%d, %v) = %v, %d", total, w, shares, code)
		return
	}
	if whole := exactSum(shares); whole.Cmp(big.NewInt(total)) != 0 {
		t.Errorf("3.4: Split(%d, %v) = %v comes to %v", total, w, shares, whole)
	}
	sum := exactSum(w)
	for i, x := range shares {
		apart := new(big.Int).Mul(big.NewInt(x), sum)
		apart.Sub(apart, new(big.Int).Mul(big.NewInt(total), big.NewInt(w[i])))
		if sum.Sign() > 0 && apart.CmpAbs(sum) >= 0 {
			t.Errorf("3.4: Split(%d, %v) gives %d to %d: a unit or more from its part", total, w, x, i)
		}
		if x < 0 || w[i] == 0 && x != 0 {
			t.Errorf("3.4: Split(%d, %v) gives %d to %d", total, w, x, i)
		}
	}
}

func TestSharesComeToTheTotal(t *testing.T) {
	checkWhole(t, 0, nil)
	checkWhole(t, 0, l(0, 0))
	for total := range int64(40) {
		for _, w := range [][]int64{l(1), l(1, 1), l(1, 1, 1), l(1, 2, 3), l(7, 0, 7), l(0, 0, 5), l(13, 11, 7, 5, 3), l(1, most-1), l(most-2, 1, 1), many(1, api.MaxShares), many(most/api.MaxShares, api.MaxShares)} {
			checkWhole(t, total, w)
			checkWhole(t, most-total, w)
		}
	}
	var s noise
	for round := range 300 {
		for _, bound := range bounds() {
			w := s.list(1+round%api.MaxShares, bound)
			w[0]++
			checkWhole(t, s.upTo(most), w)
			checkWhole(t, s.upTo(bound), w)
		}
	}
}

// spoil writes over a list and its spare room.
func spoil[T int | int64](x []T) {
	for i := range x[:cap(x)] {
		x[:cap(x)][i] = -7
	}
}

func TestAnswersAreNewMemory(t *testing.T) {
	w, caps := l(3, 2, 1), l(1, 9, 9)
	for range 2 {
		places := Order(w)
		split, _ := Split(7, w)
		even, _ := Even(7, 3)
		capped, _, _ := Capped(7, w, caps)
		if !slices.Equal(places, []int{0, 1, 2}) || !slices.Equal(split, l(4, 2, 1)) || !slices.Equal(even, l(3, 2, 2)) || !slices.Equal(capped, l(1, 4, 2)) {
			t.Error("R4: answers hang on what was done to the ones ahead:", places, split, even, capped)
		}
		spoil(places)
		spoil(split)
		spoil(even)
		spoil(capped)
		if !slices.Equal(w, l(3, 2, 1)) || !slices.Equal(caps, l(1, 9, 9)) {
			t.Error("R4: an answer shares memory with what was handed in:", w, caps)
		}
	}
}
