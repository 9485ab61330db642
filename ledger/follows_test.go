package ledger

import (
	"math/big"
	"slices"
	"testing"

	"novation/api"
)

// chanceWide is a number by chance: a small one mostly, else of any size.
func chanceWide(s *noise) api.Wide {
	switch s.upTo(5) {
	case 0:
		return api.Wide{Hi: int64(s.word()), Lo: s.word()}
	case 1:
		return int64Wide(int64(s.word()))
	case 2:
		return pick(s, []api.Wide{{Hi: highLeast}, {Hi: highMost, Lo: lowMost}, {Hi: 1}, {Hi: -1}, int64Wide(least), int64Wide(most)})
	}
	return int64Wide(int64(s.upTo(20) - 10))
}

// chanceRows are right rows by chance, of this many keys at most.
func chanceRows(s *noise, count int) []api.Row {
	sums := map[key]*big.Int{}
	for range s.upTo(count) {
		sums[pick(s, allKeys)] = big.NewInt(pick(s, []int64{least, most, -1, 1, int64(s.word()), int64(s.upTo(100)) - 50}))
	}
	l, _ := rowsOf(sums)
	return l
}

// chancePosting is entries by chance, the last of which makes them 0 together, where a Wide can.
func chancePosting(s *noise, count int) []api.Entry {
	few := []key{pick(s, allKeys), pick(s, allKeys), pick(s, allKeys)}
	var e []api.Entry
	all := new(big.Int)
	for range s.upTo(count) {
		k := pick(s, few)
		x := chanceWide(s)
		all.Add(all, number(x))
		e = append(e, api.Entry{Kind: k.kind, N: k.n, X: x})
	}
	if x, held := wideOf(all.Neg(all)); held {
		k := pick(s, few)
		e = append(e, api.Entry{Kind: k.kind, N: k.n, X: x})
	}
	return e
}

func TestPostingsByChance(t *testing.T) {
	s := noise(12)
	seen := map[api.Errno]int{}
	for range 40000 {
		_, code := checkPost(t, chanceRows(&s, 60), chancePosting(&s, pick(&s, []int{1, 3, 8})))
		seen[code]++
	}
	for code, few := range map[api.Errno]int{ok: 3000, errForm: 100, errOver: 3000} {
		if seen[code] < few {
			t.Errorf("12.2: of the postings only %d are told by %d", seen[code], code)
		}
	}
}

// TestManyEntries posts as many entries as may be, and more, of all rows.
func TestManyEntries(t *testing.T) {
	s := noise(400)
	for range 300 {
		var e []api.Entry
		for len(e) < 398 {
			k := pick(&s, allKeys)
			x := chanceWide(&s)
			opposite, held := wideOf(new(big.Int).Neg(number(x)))
			if !held {
				continue
			}
			e = append(e, api.Entry{Kind: k.kind, N: k.n, X: x})
			if s.upTo(9) == 0 {
				k = pick(&s, allKeys)
			}
			e = append(e, api.Entry{Kind: k.kind, N: k.n, X: opposite})
		}
		for _, more := range []int{0, 1, 2, 3} {
			checkPost(t, chanceRows(&s, 60), append(slices.Clone(e), slices.Repeat([]api.Entry{entry(skin, 0, 0)}, more)...))
		}
		// In another order the same comes out.
		turned := slices.Clone(e)
		slices.Reverse(turned)
		a, code := Post(six(), e)
		b, other := Post(six(), turned)
		if !slices.Equal(a, b) || code != other {
			t.Errorf("12.2: Post of %v = %v, %d, and turned about %v, %d", e, a, code, b, other)
		}
	}
}

// TestTheTotalStays goes long ways of postings and moves, from any rows, each from what the one ahead left.
func TestTheTotalStays(t *testing.T) {
	s := noise(123)
	for _, start := range rightRows() {
		l, total := start, Total(start)
		done := 0
		for range 400 {
			var next []api.Row
			var code api.Errno
			if s.upTo(1) == 0 {
				next, code = checkPost(t, l, chancePosting(&s, 4))
			} else {
				x := pick(&s, []int64{int64(s.upTo(2000)) - 1000, int64(s.word()), least, most, 0})
				next, code = checkMove(t, l, pick(&s, allKeys), pick(&s, append(slices.Clone(allKeys), key{})), x)
			}
			if code != ok {
				continue
			}
			l = next
			done++
			if got := Total(l); got != total {
				t.Fatalf("12.3: the Total has come from %v to %v", total, got)
			}
		}
		if done < 50 {
			t.Errorf("12.3: only %d of 400 were let through", done)
		}
	}
}

// TestMovesFromNothingComeToNothing holds 12.3 where it is told of the whole: what began with no row is 0 at all times.
func TestMovesFromNothingComeToNothing(t *testing.T) {
	s := noise(7)
	var l []api.Row
	for range 3000 {
		l, _ = Move(l, pickRow(&s), pickRow(&s), int64(s.upTo(1<<40)))
		if got := Total(l); got != (api.Wide{}) {
			t.Fatalf("12.3: the Total of %v is %v", l, got)
		}
	}
	if len(l) < 50 {
		t.Error("12.3: only", len(l), "rows are there")
	}
}

// pickRow is a row that may be.
func pickRow(s *noise) api.Row {
	k := pick(s, allKeys)
	return api.Row{Kind: k.kind, N: k.n, Sum: int64(s.upTo(3))}
}

// withRoom is a copy with spare room that holds something.
func withRoom[T any](l []T, spare T) []T {
	room := append(slices.Clone(l), slices.Repeat([]T{spare}, 60)...)
	return room[:len(l)]
}

// whole is a list with its spare room.
func whole[T any](l []T) []T { return l[:cap(l)] }

// spoil writes over all of a list and its spare room.
func spoil[T any](l []T, with T) {
	for i := range whole(l) {
		whole(l)[i] = with
	}
}

func TestWhatIsHandedInStays(t *testing.T) {
	bad := api.Row{Kind: margin, N: 9, Sum: 77}
	badEntry := entry(fund, 9, 88)
	postings := [][]api.Entry{nil, {entry(margin, 3, 1), entry(world, 0, -1)}, {entry(assess, 9, 1), entry(world, 0, -1)}, {entry(assess, 9, 1)},
		{entry(fund, 9, 1), entry(ours, 0, 4), entry(fund, 9, -1), entry(margin, 3, -4)}, {wideEntry(margin, 3, 1, 0), wideEntry(fund, 1, -1, 0)}}
	lists := rightRows()
	for name, l := range wrongRows() {
		lists["wrong: "+name] = l
	}
	for name, plain := range lists {
		l := withRoom(plain, bad)
		was := slices.Clone(whole(l))
		for _, posting := range postings {
			e := withRoom(posting, badEntry)
			hadEntries := slices.Clone(whole(e))
			got, code := Post(l, e)
			want := slices.Clone(got)
			if !slices.Equal(whole(l), was) || !slices.Equal(whole(e), hadEntries) {
				t.Fatalf("12.2: %s: Post of %v has changed what was handed in", name, posting)
			}
			spoil(got, api.Row{Kind: 1, N: 2, Sum: 3})
			if !slices.Equal(whole(l), was) || !slices.Equal(whole(e), hadEntries) {
				t.Fatalf("12.2: %s: what Post of %v answers is what was handed in", name, posting)
			}
			again, second := Post(l, e)
			spoil(l, bad)
			spoil(e, badEntry)
			if !slices.Equal(again, want) || second != code {
				t.Fatalf("12.2: %s: Post of %v = %v, %d, then %v, %d", name, posting, want, code, again, second)
			}
			copy(whole(l), was)
		}
		from, to := api.Row{Kind: world, Sum: 1}, api.Row{Kind: margin, N: 9, Sum: 2}
		got, code := Move(l, from, to, 4)
		want := slices.Clone(got)
		if !slices.Equal(whole(l), was) {
			t.Fatalf("12.2: %s: Move has changed what was handed in", name)
		}
		spoil(got, bad)
		if !slices.Equal(whole(l), was) {
			t.Fatalf("12.2: %s: what Move answers is what was handed in", name)
		}
		again, second := Move(l, from, to, 4)
		Right(l)
		Get(l, margin, 3)
		Total(l)
		if !slices.Equal(whole(l), was) {
			t.Fatalf("12.1: %s: the rows are changed", name)
		}
		spoil(l, api.Row{})
		if !slices.Equal(again, want) || second != code {
			t.Fatalf("12.2: %s: Move = %v, %d, then %v, %d", name, want, code, again, second)
		}
	}
}

func TestTwoAnswersShareNothing(t *testing.T) {
	l := six()
	a, _ := Post(l, nil)
	b, _ := Post(l, nil)
	spoil(a, api.Row{})
	if !slices.Equal(b, six()) || !slices.Equal(l, six()) {
		t.Errorf("12.2: two answers of Post share memory: %v, %v", a, b)
	}
	a, _ = Move(l, api.Row{Kind: skin}, api.Row{Kind: skin}, 1)
	b, _ = Move(l, api.Row{Kind: skin}, api.Row{Kind: skin}, 1)
	spoil(a, api.Row{})
	if !slices.Equal(b, six()) || !slices.Equal(l, six()) {
		t.Errorf("12.2: two answers of Move share memory: %v, %v", a, b)
	}
}

func TestExample(t *testing.T) {
	got, code := Move(nil, api.Row{Kind: api.World}, api.Row{Kind: api.Margin, N: 3}, 5)
	want := []api.Row{{Kind: api.World, N: 0, Sum: -5}, {Kind: api.Margin, N: 3, Sum: 5}}
	if !slices.Equal(got, want) || code != ok {
		t.Errorf("12.2: Move(nothing, World, Margin 3, 5) = %v, %d, want %v, %d", got, code, want, ok)
	}
}
