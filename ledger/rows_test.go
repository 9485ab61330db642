package ledger

import (
	"math"
	"slices"
	"strconv"
	"testing"

	"novation/api"
)

// six are rows with room ahead of all, between any two, and behind all.
func six() []api.Row {
	return []api.Row{
		{Kind: ours, Sum: -20},
		{Kind: short, Sum: 1},
		{Kind: margin, N: 3, Sum: 7},
		{Kind: margin, N: 20, Sum: 1 << 40},
		{Kind: fund, N: 5, Sum: -1},
		{Kind: assess, N: 6, Sum: 9},
	}
}

// fullRows are all rows that there may be, each of this Sum.
func fullRows(sum int64) []api.Row {
	var l []api.Row
	for _, k := range allKeys {
		l = append(l, api.Row{Kind: k.kind, N: k.n, Sum: sum})
	}
	return l
}

// rightRows are rows that are right, by names.
func rightRows() map[string][]api.Row {
	return map[string][]api.Row{
		"nil":               nil,
		"none":              {},
		"none with room":    six()[:0],
		"the first":         {{Kind: world, Sum: -1}},
		"the last":          {{Kind: assess, N: 12, Sum: 1}},
		"the ends":          {{Kind: world, Sum: most}, {Kind: assess, N: 12, Sum: least}},
		"the bounds of N":   {{Kind: margin, N: 1, Sum: 1}, {Kind: margin, N: 24, Sum: 1}, {Kind: fund, N: 1, Sum: 1}, {Kind: fund, N: 12, Sum: 1}, {Kind: assess, N: 1, Sum: 1}},
		"N that falls":      {{Kind: margin, N: 24, Sum: 1}, {Kind: fund, N: 3, Sum: 1}, {Kind: assess, N: 2, Sum: 1}},
		"alike by N":        {{Kind: margin, N: 4, Sum: 1}, {Kind: fund, N: 4, Sum: 1}, {Kind: assess, N: 4, Sum: 1}},
		"alike by Sum":      {{Kind: world, Sum: 6}, {Kind: ours, Sum: 6}, {Kind: skin, Sum: 6}},
		"Sums that fall":    {{Kind: world, Sum: 3}, {Kind: ours, Sum: 2}, {Kind: skin, Sum: 1}, {Kind: short, Sum: -1}},
		"come to 0":         {{Kind: world, Sum: -5}, {Kind: margin, N: 3, Sum: 5}},
		"two of the least":  {{Kind: world, Sum: least}, {Kind: ours, Sum: least}},
		"two of the most":   {{Kind: skin, Sum: most}, {Kind: short, Sum: most}},
		"least and most":    {{Kind: skin, Sum: least}, {Kind: short, Sum: most}},
		"six":               six(),
		"full":              fullRows(1),
		"full of the least": fullRows(least),
		"full of the most":  fullRows(most),
	}
}

// wrongRows are rows that aren't right, by names.
func wrongRows() map[string][]api.Row {
	wrong := map[string][]api.Row{
		"nothing in it":           {{}},
		"fall by Kind":            {{Kind: fund, N: 1, Sum: 1}, {Kind: margin, N: 2, Sum: 1}},
		"fall by N":               {{Kind: margin, N: 2, Sum: 1}, {Kind: margin, N: 1, Sum: 1}},
		"alike":                   {{Kind: margin, N: 2, Sum: 1}, {Kind: margin, N: 2, Sum: 1}},
		"alike but for the Sum":   {{Kind: world, Sum: 1}, {Kind: world, Sum: 2}},
		"alike, opposite":         {{Kind: ours, Sum: 1}, {Kind: ours, Sum: -1}},
		"alike behind all":        append(six(), api.Row{Kind: assess, N: 6, Sum: 1}),
		"one too many":            append(fullRows(1), api.Row{Kind: assess, N: 13, Sum: 1}),
		"one too many, of a Kind": append(fullRows(1), api.Row{Kind: 8, N: 1, Sum: 1}),
		"twice all":               append(fullRows(1), fullRows(1)...),
	}
	lay := func(name string, place int, turn func([]api.Row)) {
		l := six()
		turn(l)
		wrong[name+" at "+strconv.Itoa(place)] = l
	}
	for place := range six() {
		lay("a Sum of 0", place, func(l []api.Row) { l[place].Sum = 0 })
		lay("nothing", place, func(l []api.Row) { l[place] = api.Row{} })
		for i, k := range noKeys() {
			lay("no key "+strconv.Itoa(i), place, func(l []api.Row) { l[place] = api.Row{Kind: k.kind, N: k.n, Sum: 5} })
		}
		if place > 0 {
			lay("turned about", place, func(l []api.Row) { l[place-1], l[place] = l[place], l[place-1] })
			lay("two alike", place, func(l []api.Row) { l[place].Kind, l[place].N = l[place-1].Kind, l[place-1].N })
		}
	}
	return wrong
}

func TestKey(t *testing.T) {
	for _, k := range slices.Concat(pairs(), noKeys()) {
		if got, want := Key(k.kind, k.n), toldKey(k); got != want {
			t.Errorf("12.1: Key(%d, %d) = %v, want %v", k.kind, k.n, got, want)
		}
	}
	for _, k := range noKeys() {
		if Key(k.kind, k.n) {
			t.Errorf("12.1: Key(%d, %d) = true", k.kind, k.n)
		}
	}
	for _, c := range []struct {
		kind, n int
		want    bool
	}{
		{world, 0, true}, {world, 1, false}, {world, -1, false},
		{ours, 0, true}, {ours, 1, false}, {skin, 0, true}, {skin, 1, false}, {short, 0, true}, {short, 1, false},
		{margin, 0, false}, {margin, 1, true}, {margin, 24, true}, {margin, 25, false}, {margin, -1, false},
		{fund, 0, false}, {fund, 1, true}, {fund, 12, true}, {fund, 13, false}, {fund, 24, false},
		{assess, 0, false}, {assess, 1, true}, {assess, 12, true}, {assess, 13, false},
		{0, 0, false}, {0, 1, false}, {8, 0, false}, {8, 1, false}, {-1, 0, false}, {-5, 1, false},
		{math.MaxInt, 0, false}, {margin, math.MinInt, false}, {1<<32 + margin, 1, false}, {margin, 1<<32 + 1, false},
	} {
		if got := Key(c.kind, c.n); got != c.want {
			t.Errorf("12.1: Key(%d, %d) = %v, want %v", c.kind, c.n, got, c.want)
		}
	}
}

func TestRowsThatAreRight(t *testing.T) {
	for name, l := range rightRows() {
		if !Right(l) || !toldRight(l) {
			t.Errorf("12.1: %s: Right(%v) = %v, the model's %v, want true", name, l, Right(l), toldRight(l))
		}
		for _, k := range slices.Concat(allKeys, noKeys()) {
			checkGet(t, l, k)
		}
		checkTotal(t, l)
	}
}

func TestRowsThatAreNotRight(t *testing.T) {
	posting := []api.Entry{{Kind: world, X: int64Wide(-1)}, {Kind: margin, N: 3, X: int64Wide(1)}}
	tooMuch := []api.Entry{{Kind: world, X: api.Wide{Hi: -1}}, {Kind: margin, N: 3, X: api.Wide{Hi: 1}}}
	for name, l := range wrongRows() {
		if Right(l) || toldRight(l) {
			t.Errorf("12.1: %s: Right(%v) = %v, the model's %v, want false", name, l, Right(l), toldRight(l))
		}
		for _, k := range slices.Concat(allKeys, noKeys()) {
			if got := Get(l, k.kind, k.n); got != 0 {
				t.Errorf("12.1: %s: Get(%v, %d, %d) = %d, want 0", name, l, k.kind, k.n, got)
			}
		}
		if got := Total(l); got != (api.Wide{}) {
			t.Errorf("12.1: %s: Total(%v) = %v, want 0", name, l, got)
		}
		for _, e := range [][]api.Entry{nil, {}, posting, tooMuch, {{Kind: 9}}} {
			if got, code := Post(l, e); len(got) != 0 || code != errForm {
				t.Errorf("12.2: %s: Post(%v, %v) = %v, %d, want none, %d", name, l, e, got, code, errForm)
			}
		}
		for _, x := range []int64{least, -1, 0, 1, most} {
			if got, code := Move(l, api.Row{Kind: world, Sum: 1}, api.Row{Kind: margin, N: 3, Sum: 1}, x); len(got) != 0 || code != errForm {
				t.Errorf("12.2: %s: Move(%v, .., %d) = %v, %d, want none, %d", name, l, x, got, code, errForm)
			}
		}
	}
}

// TestRowsOfTwo goes through all two rows of keys, and of some that are none.
func TestRowsOfTwo(t *testing.T) {
	all := slices.Concat(allKeys, noKeys())
	for _, a := range all {
		for _, b := range all {
			for _, sums := range [][2]int64{{1, 1}, {0, 1}, {1, 0}, {2, -2}, {least, least}} {
				l := []api.Row{{Kind: a.kind, N: a.n, Sum: sums[0]}, {Kind: b.kind, N: b.n, Sum: sums[1]}}
				checkRight(t, l)
				checkTotal(t, l)
				checkGet(t, l, a)
				checkGet(t, l, b)
			}
		}
	}
}

// TestSmallRows goes through all rows of up to four, of a few that may be and may not.
func TestSmallRows(t *testing.T) {
	pool := []api.Row{{Kind: world, Sum: -3}, {Kind: ours, Sum: 1}, {Kind: margin, N: 1, Sum: 4}, {Kind: margin, N: 2, Sum: 5}, {Kind: fund, N: 1, Sum: -6},
		{Kind: ours}, {Kind: margin, Sum: 1}, {Kind: skin, N: 1, Sum: 1}}
	var extend func(l []api.Row)
	extend = func(l []api.Row) {
		checkRight(t, l)
		checkTotal(t, l)
		for _, row := range pool {
			checkGet(t, l, keyOf(row))
		}
		if len(l) < 4 {
			for _, row := range pool {
				extend(append(slices.Clone(l), row))
			}
		}
	}
	extend(nil)
}

func TestGet(t *testing.T) {
	for _, c := range []struct {
		l       []api.Row
		kind, n int
		want    int64
	}{
		{nil, world, 0, 0}, {[]api.Row{}, margin, 1, 0},
		{six(), world, 0, 0}, {six(), ours, 0, -20}, {six(), skin, 0, 0}, {six(), short, 0, 1},
		{six(), margin, 2, 0}, {six(), margin, 3, 7}, {six(), margin, 4, 0}, {six(), margin, 20, 1 << 40}, {six(), margin, 24, 0},
		{six(), fund, 3, 0}, {six(), fund, 5, -1}, {six(), fund, 6, 0}, {six(), assess, 5, 0}, {six(), assess, 6, 9}, {six(), assess, 12, 0},
		{six(), ours, 3, 0}, {six(), margin, 0, 0}, {six(), 0, 0, 0}, {six(), 8, 6, 0}, {six(), 1<<32 + ours, 0, 0}, {six(), margin, 1<<32 + 3, 0},
		{fullRows(least), assess, 12, least}, {fullRows(most), world, 0, most}, {fullRows(most), assess, 13, 0},
		{fullRows(0), world, 0, 0}, {append(six(), six()...), ours, 0, 0},
	} {
		if got := Get(c.l, c.kind, c.n); got != c.want {
			t.Errorf("12.1: Get(%v, %d, %d) = %d, want %d", c.l, c.kind, c.n, got, c.want)
		}
	}
	// Each row has a Sum of its own, so that none is told for another.
	l := fullRows(0)
	for i := range l {
		l[i].Sum = int64(i + 1)
	}
	for _, k := range slices.Concat(pairs(), noKeys()) {
		checkGet(t, l, k)
	}
}

func TestTotal(t *testing.T) {
	for _, c := range []struct {
		l    []api.Row
		want api.Wide
	}{
		{nil, api.Wide{}},
		{[]api.Row{}, api.Wide{}},
		{[]api.Row{{Kind: world, Sum: 5}}, api.Wide{Lo: 5}},
		{[]api.Row{{Kind: world, Sum: -5}}, api.Wide{Hi: -1, Lo: 1<<64 - 5}},
		{[]api.Row{{Kind: world, Sum: -5}, {Kind: margin, N: 3, Sum: 5}}, api.Wide{}},
		{[]api.Row{{Kind: world, Sum: most}, {Kind: ours, Sum: 1}}, api.Wide{Lo: 1 << 63}},
		{[]api.Row{{Kind: world, Sum: least}, {Kind: ours, Sum: -1}}, api.Wide{Hi: -1, Lo: 1<<63 - 1}},
		{[]api.Row{{Kind: world, Sum: most}, {Kind: ours, Sum: most}}, api.Wide{Lo: 1<<64 - 2}},
		{[]api.Row{{Kind: world, Sum: least}, {Kind: ours, Sum: least}}, api.Wide{Hi: -1}},
		{[]api.Row{{Kind: world, Sum: least}, {Kind: ours, Sum: most}}, api.Wide{Hi: -1, Lo: 1<<64 - 1}},
		{six(), api.Wide{Lo: 1<<40 - 4}},
		// 52 rows: 52 by 2^63 is 26 by 2^64.
		{fullRows(least), api.Wide{Hi: -26}},
		{fullRows(most), api.Wide{Hi: 25, Lo: 1<<64 - 52}},
		{fullRows(0), api.Wide{}},
		{append(six(), six()...), api.Wide{}},
	} {
		if got := Total(c.l); got != c.want {
			t.Errorf("12.1: Total(%v) = %v, want %v", c.l, got, c.want)
		}
	}
}
