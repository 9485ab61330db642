package ledger

import (
	"maps"
	"math"
	"math/big"
	"slices"
	"testing"

	"novation/api"
)

// The bounds, kinds and codes, as numbers, beside the names that api has for them.
const (
	mostMembers = 12
	mostAccs    = 24
	mostEntries = 400

	world  = 1
	ours   = 2
	skin   = 3
	short  = 4
	margin = 5
	fund   = 6
	assess = 7

	least = math.MinInt64
	most  = math.MaxInt64

	ok      = api.Errno(0)
	errForm = api.Errno(1)
	errOver = api.Errno(2)
)

func TestNumbersAreApis(t *testing.T) {
	got := []int{api.MaxMembers, api.MaxAccs, api.MaxEntries,
		api.World, api.Case, api.Skin, api.Short, api.Margin, api.Fund, api.Assess,
		int(api.OK), int(api.ErrForm), int(api.ErrOver)}
	want := []int{mostMembers, mostAccs, mostEntries,
		world, ours, skin, short, margin, fund, assess,
		int(ok), int(errForm), int(errOver)}
	if !slices.Equal(got, want) {
		t.Error("12.1: the numbers are", got, "and not", want)
	}
}

// noise is a plain sequence of numbers, the same in each run.
type noise uint64

// word is the next 64 bits.
func (s *noise) word() uint64 {
	*s = *s*6364136223846793005 + 1442695040888963407
	x := uint64(*s)
	x ^= x >> 29
	x *= 0xbf58476d1ce4e5b9
	return x ^ x>>32
}

// upTo is a number from 0 to n.
func (s *noise) upTo(n int) int { return int(s.word()>>1) % (n + 1) }

// pick is one of the items.
func pick[T any](s *noise, items []T) T { return items[s.upTo(len(items)-1)] }

// key is a Kind and an N.
type key struct{ kind, n int }

// before tells whether the row of k comes ahead of that of o.
func (k key) before(o key) bool { return k.kind < o.kind || k.kind == o.kind && k.n < o.n }

// compareKeys is before, for sorting.
func compareKeys(a, b key) int {
	switch {
	case a.before(b):
		return -1
	case b.before(a):
		return 1
	}
	return 0
}

// allKeys are all that there may be, in their order.
var allKeys = keys()

// keys makes them.
func keys() []key {
	l := []key{{world, 0}, {ours, 0}, {skin, 0}, {short, 0}}
	for n := 1; n <= mostAccs; n++ {
		l = append(l, key{margin, n})
	}
	for n := 1; n <= mostMembers; n++ {
		l = append(l, key{fund, n})
	}
	for n := 1; n <= mostMembers; n++ {
		l = append(l, key{assess, n})
	}
	return l
}

// strange are numbers that are far from any kind or N, some of which have the lower bits of one.
func strange() []int {
	l := []int{math.MinInt, math.MinInt + 1, math.MinInt32, math.MaxInt32, math.MaxInt - 1, math.MaxInt}
	for _, high := range []int{1 << 8, 1 << 16, 1 << 32, math.MinInt} {
		for _, x := range []int{0, 1, 2, 5, 6, 7, 12, 24} {
			l = append(l, high+x, x-high)
		}
	}
	return l
}

// pairs are all Kinds and Ns from below those that there may be to beyond them, and strange ones.
func pairs() []key {
	var kinds, ns []int
	for kind := -2; kind <= 10; kind++ {
		kinds = append(kinds, kind)
	}
	for n := -3; n <= mostAccs+3; n++ {
		ns = append(ns, n)
	}
	var l []key
	for _, kind := range append(kinds, strange()...) {
		for _, n := range append(ns, strange()...) {
			l = append(l, key{kind, n})
		}
	}
	return l
}

// noKeys are some that there may not be: each bound and one beyond, the lower bits of a key, the ends of int.
func noKeys() []key {
	return []key{{}, {0, 1}, {-1, 0}, {8, 0}, {8, 1}, {math.MinInt, 0}, {math.MaxInt, 0}, {1 << 32, 0}, {1<<32 + world, 0}, {1<<32 + margin, 3},
		{world, 1}, {world, -1}, {world, math.MinInt}, {ours, 1}, {skin, 1}, {short, 1}, {short, 1 << 32}, {short, -1},
		{margin, 0}, {margin, 25}, {margin, -1}, {margin, math.MinInt}, {margin, math.MaxInt}, {margin, 1<<32 + 3}, {margin, 3 - 1<<32},
		{fund, 0}, {fund, 13}, {fund, 24}, {fund, -1}, {fund, 1<<32 + 1}, {assess, 0}, {assess, 13}, {assess, -12}, {assess, math.MinInt + 1}}
}

// toldKey is 12.1's Key.
func toldKey(k key) bool { return slices.Contains(allKeys, k) }

// keyOf is a row's key.
func keyOf(row api.Row) key { return key{row.Kind, row.N} }

// toldRight is 12.1's Right, each row held against all ahead of it.
func toldRight(l []api.Row) bool {
	for i, row := range l {
		if !toldKey(keyOf(row)) || row.Sum == 0 {
			return false
		}
		for _, ahead := range l[:i] {
			if !keyOf(ahead).before(keyOf(row)) {
				return false
			}
		}
	}
	return true
}

// number is the number that a Wide is.
func number(w api.Wide) *big.Int {
	x := new(big.Int).Lsh(big.NewInt(w.Hi), 64)
	return x.Add(x, new(big.Int).SetUint64(w.Lo))
}

// wideOf is the Wide of a number; false if none is.
func wideOf(x *big.Int) (api.Wide, bool) {
	high := new(big.Int).Rsh(x, 64)
	if !high.IsInt64() {
		return api.Wide{}, false
	}
	low := new(big.Int).Sub(x, new(big.Int).Lsh(high, 64))
	return api.Wide{Hi: high.Int64(), Lo: low.Uint64()}, true
}

// int64Wide is the Wide of an int64.
func int64Wide(x int64) api.Wide {
	w, _ := wideOf(big.NewInt(x))
	return w
}

// sumsOf is the Sums of right rows by their keys; of rows that aren't right none is told.
func sumsOf(l []api.Row) map[key]*big.Int {
	sums := map[key]*big.Int{}
	if toldRight(l) {
		for _, row := range l {
			sums[keyOf(row)] = big.NewInt(row.Sum)
		}
	}
	return sums
}

// rowsOf is the rows of these Sums; false if one of them is more than an int64 can hold.
func rowsOf(sums map[key]*big.Int) ([]api.Row, bool) {
	var l []api.Row
	for _, k := range slices.SortedFunc(maps.Keys(sums), compareKeys) {
		if !sums[k].IsInt64() {
			return nil, false
		}
		if sums[k].Sign() != 0 {
			l = append(l, api.Row{Kind: k.kind, N: k.n, Sum: sums[k].Int64()})
		}
	}
	return l, true
}

// wantGet is 12.1's Get.
func wantGet(l []api.Row, k key) int64 {
	if sum, there := sumsOf(l)[k]; there {
		return sum.Int64()
	}
	return 0
}

// wantTotal is 12.1's Total.
func wantTotal(l []api.Row) api.Wide {
	total := new(big.Int)
	for _, sum := range sumsOf(l) {
		total.Add(total, sum)
	}
	w, _ := wideOf(total)
	return w
}

// wantPost is 12.2's Post.
func wantPost(l []api.Row, e []api.Entry) ([]api.Row, api.Errno) {
	sums, all := sumsOf(l), new(big.Int)
	for _, entry := range e {
		k, x := key{entry.Kind, entry.N}, number(entry.X)
		if !toldKey(k) {
			return nil, errForm
		}
		all.Add(all, x)
		if sums[k] == nil {
			sums[k] = new(big.Int)
		}
		sums[k].Add(sums[k], x)
	}
	if !toldRight(l) || len(e) > mostEntries || all.Sign() != 0 {
		return nil, errForm
	}
	posted, held := rowsOf(sums)
	if !held {
		return nil, errOver
	}
	return posted, ok
}

// wantMove is 12.2's Move.
func wantMove(l []api.Row, from, to key, x int64) ([]api.Row, api.Errno) {
	less, _ := wideOf(new(big.Int).Neg(big.NewInt(x)))
	return wantPost(l, []api.Entry{{Kind: from.kind, N: from.n, X: less}, {Kind: to.kind, N: to.n, X: int64Wide(x)}})
}

// checkRight holds Right against the model.
func checkRight(t *testing.T, l []api.Row) {
	t.Helper()
	if got, want := Right(l), toldRight(l); got != want {
		t.Errorf("12.1: Right(%v) = %v, want %v", l, got, want)
	}
}

// checkGet holds Get against the model.
func checkGet(t *testing.T, l []api.Row, k key) {
	t.Helper()
	if got, want := Get(l, k.kind, k.n), wantGet(l, k); got != want {
		t.Errorf("12.1: Get(%v, %d, %d) = %d, want %d", l, k.kind, k.n, got, want)
	}
}

// checkTotal holds Total against the model.
func checkTotal(t *testing.T, l []api.Row) {
	t.Helper()
	if got, want := Total(l), wantTotal(l); got != want {
		t.Errorf("12.1: Total(%v) = %v, want %v", l, got, want)
	}
}

// checkPost holds Post against the model, and what comes out of it against 12.3.
func checkPost(t *testing.T, l []api.Row, e []api.Entry) ([]api.Row, api.Errno) {
	t.Helper()
	got, code := Post(l, e)
	want, wantCode := wantPost(l, e)
	if !slices.Equal(got, want) || code != wantCode {
		t.Errorf("12.2: Post(%v, %v) = %v, %d, want %v, %d", l, e, got, code, want, wantCode)
	}
	checkComes(t, "Post", l, got, code)
	return got, code
}

// checkMove holds Move against the model, and what comes out of it against 12.3; the rows' Sums are none that play a part.
func checkMove(t *testing.T, l []api.Row, from, to key, x int64) ([]api.Row, api.Errno) {
	t.Helper()
	got, code := Move(l, api.Row{Kind: from.kind, N: from.n}, api.Row{Kind: to.kind, N: to.n}, x)
	want, wantCode := wantMove(l, from, to, x)
	if !slices.Equal(got, want) || code != wantCode {
		t.Errorf("12.2: Move(%v, %v, %v, %d) = %v, %d, want %v, %d", l, from, to, x, got, code, want, wantCode)
	}
	checkComes(t, "Move", l, got, code)
	return got, code
}

// checkComes tells when what came out beside OK isn't right, or has another Total than the rows that went in.
func checkComes(t *testing.T, call string, l, got []api.Row, code api.Errno) {
	t.Helper()
	if code != ok {
		return
	}
	if !Right(got) {
		t.Errorf("12.2: what comes out of %s of %v isn't right: %v", call, l, got)
	}
	if Total(got) != Total(l) {
		t.Errorf("12.3: %s turns the Total of %v from %v to %v", call, l, Total(l), Total(got))
	}
}
