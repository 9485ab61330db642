package ledger

import (
	"math/big"
	"slices"
	"testing"

	"novation/api"
)

// entry is an entry of an int64.
func entry(kind, n int, x int64) api.Entry {
	return api.Entry{Kind: kind, N: n, X: int64Wide(x)}
}

// wideEntry is an entry of a number of 128 bits.
func wideEntry(kind, n int, hi int64, lo uint64) api.Entry {
	return api.Entry{Kind: kind, N: n, X: api.Wide{Hi: hi, Lo: lo}}
}

// alternate are this many entries, of one more and one less in turn.
func alternate(count int) []api.Entry {
	var e []api.Entry
	for i := range count {
		e = append(e, entry(ours+2*(i%2), 0, int64(1-2*(i%2))))
	}
	return e
}

// The ends of a Wide.
const (
	highMost  = most
	highLeast = least
	lowMost   = 1<<64 - 1
)

func TestPost(t *testing.T) {
	some := []api.Row{{Kind: world, Sum: -15}, {Kind: skin, Sum: 5}, {Kind: margin, N: 3, Sum: 7}, {Kind: fund, N: 12, Sum: 3}}
	for name, c := range map[string]struct {
		l    []api.Row
		e    []api.Entry
		want []api.Row
		code api.Errno
	}{
		"nothing to nothing":  {nil, nil, nil, ok},
		"none to none":        {[]api.Row{}, []api.Entry{}, nil, ok},
		"no entry":            {some, nil, some, ok},
		"an entry of 0":       {some, []api.Entry{entry(margin, 9, 0)}, some, ok},
		"entries of 0":        {nil, []api.Entry{entry(world, 0, 0), entry(assess, 12, 0)}, nil, ok},
		"ahead of all":        {six(), []api.Entry{entry(world, 0, -8), entry(ours, 0, 8)}, append([]api.Row{{Kind: world, Sum: -8}, {Kind: ours, Sum: -12}}, six()[1:]...), ok},
		"between two":         {some, []api.Entry{entry(margin, 2, 4), entry(margin, 4, -4)}, []api.Row{some[0], some[1], {Kind: margin, N: 2, Sum: 4}, some[2], {Kind: margin, N: 4, Sum: -4}, some[3]}, ok},
		"behind all":          {some, []api.Entry{entry(assess, 1, 4), entry(assess, 2, -4)}, append(slices.Clone(some), api.Row{Kind: assess, N: 1, Sum: 4}, api.Row{Kind: assess, N: 2, Sum: -4}), ok},
		"entries that fall":   {nil, []api.Entry{entry(assess, 2, 1), entry(fund, 7, 2), entry(margin, 9, 3), entry(margin, 8, 4), entry(world, 0, -10)}, []api.Row{{Kind: world, Sum: -10}, {Kind: margin, N: 8, Sum: 4}, {Kind: margin, N: 9, Sum: 3}, {Kind: fund, N: 7, Sum: 2}, {Kind: assess, N: 2, Sum: 1}}, ok},
		"alike by N":          {nil, []api.Entry{entry(margin, 4, 1), entry(fund, 4, 2), entry(assess, 4, -3)}, []api.Row{{Kind: margin, N: 4, Sum: 1}, {Kind: fund, N: 4, Sum: 2}, {Kind: assess, N: 4, Sum: -3}}, ok},
		"a row is gone":       {some, []api.Entry{entry(margin, 3, -7), entry(fund, 1, 7)}, []api.Row{some[0], some[1], {Kind: fund, N: 1, Sum: 7}, some[3]}, ok},
		"the first is gone":   {some, []api.Entry{entry(world, 0, 15), entry(margin, 3, -15)}, []api.Row{some[1], {Kind: margin, N: 3, Sum: -8}, some[3]}, ok},
		"the last is gone":    {some, []api.Entry{entry(fund, 12, -3), entry(fund, 11, 3)}, append(slices.Clone(some[:3]), api.Row{Kind: fund, N: 11, Sum: 3}), ok},
		"all are gone":        {some, []api.Entry{entry(world, 0, 15), entry(skin, 0, -5), entry(margin, 3, -7), entry(fund, 12, -3)}, nil, ok},
		"one row twice":       {some, []api.Entry{entry(skin, 0, 3), entry(world, 0, -5), entry(skin, 0, 2)}, []api.Row{{Kind: world, Sum: -20}, {Kind: skin, Sum: 10}, some[2], some[3]}, ok},
		"there and back":      {some, []api.Entry{entry(ours, 0, 3), entry(ours, 0, -3)}, some, ok},
		"one row gone, twice": {some, []api.Entry{entry(margin, 3, -3), entry(world, 0, 7), entry(margin, 3, -4)}, []api.Row{{Kind: world, Sum: -8}, some[1], some[3]}, ok},
		"not 0 together":      {some, []api.Entry{entry(ours, 0, 3)}, nil, errForm},
		"more than 0":         {some, []api.Entry{entry(ours, 0, 3), entry(world, 0, -2)}, nil, errForm},
		"less than 0":         {some, []api.Entry{entry(ours, 0, 3), entry(world, 0, -4)}, nil, errForm},
		"the rows make up":    {[]api.Row{{Kind: world, Sum: -3}}, []api.Entry{entry(ours, 0, 3)}, nil, errForm},
		"0 in the upper word": {nil, []api.Entry{wideEntry(ours, 0, 0, 1)}, nil, errForm},
		"0 in the lower word": {nil, []api.Entry{wideEntry(ours, 0, 1, 0)}, nil, errForm},
		"no Kind":             {some, []api.Entry{{}}, nil, errForm},
		"no key, of 0":        {some, []api.Entry{entry(ours, 1, 0)}, nil, errForm},
		"no key, first":       {some, []api.Entry{entry(margin, 0, 1), entry(ours, 0, -1)}, nil, errForm},
		"no key, last":        {some, []api.Entry{entry(ours, 0, -1), entry(margin, 25, 1)}, nil, errForm},
		"no key, twice":       {some, []api.Entry{entry(fund, 13, 1), entry(fund, 13, -1)}, nil, errForm},
		"as many as may be":   {nil, alternate(400), []api.Row{{Kind: ours, Sum: 200}, {Kind: short, Sum: -200}}, ok},
		"one more":            {nil, append(alternate(400), entry(ours, 0, 0)), nil, errForm},
		"two more":            {nil, alternate(402), nil, errForm},
		"one less":            {nil, append(alternate(398), entry(world, 0, 0)), []api.Row{{Kind: ours, Sum: 199}, {Kind: short, Sum: -199}}, ok},
		"many of 0":           {some, slices.Repeat([]api.Entry{entry(world, 0, 0)}, 401), nil, errForm},
	} {
		checkPost(t, c.l, c.e)
		if got, code := Post(c.l, c.e); !slices.Equal(got, c.want) || code != c.code {
			t.Errorf("12.2: %s: Post(%v, %v) = %v, %d, want %v, %d", name, c.l, c.e, got, code, c.want, c.code)
		}
	}
}

func TestPostAtTheBounds(t *testing.T) {
	atMost := []api.Row{{Kind: world, Sum: -5}, {Kind: margin, N: 1, Sum: most - 3}}
	atLeast := []api.Row{{Kind: world, Sum: least + 3}, {Kind: margin, N: 1, Sum: 5}}
	for name, c := range map[string]struct {
		l    []api.Row
		e    []api.Entry
		want []api.Row
		code api.Errno
	}{
		"just the most":              {atMost, []api.Entry{entry(margin, 1, 3), entry(world, 0, -3)}, []api.Row{{Kind: world, Sum: -8}, {Kind: margin, N: 1, Sum: most}}, ok},
		"one above":                  {atMost, []api.Entry{entry(margin, 1, 4), entry(world, 0, -4)}, nil, errOver},
		"just the least":             {atLeast, []api.Entry{entry(margin, 1, 3), entry(world, 0, -3)}, []api.Row{{Kind: world, Sum: least}, {Kind: margin, N: 1, Sum: 8}}, ok},
		"one below":                  {atLeast, []api.Entry{entry(margin, 1, 4), entry(world, 0, -4)}, nil, errOver},
		"above in two":               {atMost, []api.Entry{entry(margin, 1, 2), entry(world, 0, -4), entry(margin, 1, 2)}, nil, errOver},
		"above, and back":            {atMost, []api.Entry{entry(margin, 1, most), entry(ours, 0, -most), entry(margin, 1, -most), entry(ours, 0, most)}, atMost, ok},
		"below, and back":            {atLeast, []api.Entry{entry(world, 0, least), entry(ours, 0, most), entry(world, 0, most), entry(ours, 0, least), entry(skin, 0, 2)}, []api.Row{{Kind: world, Sum: least + 2}, {Kind: ours, Sum: -1}, {Kind: skin, Sum: 2}, {Kind: margin, N: 1, Sum: 5}}, ok},
		"from the least to the most": {[]api.Row{{Kind: skin, Sum: least}}, []api.Entry{wideEntry(skin, 0, 0, lowMost), entry(world, 0, -most), entry(ours, 0, -most), entry(short, 0, -1)}, []api.Row{{Kind: world, Sum: -most}, {Kind: ours, Sum: -most}, {Kind: skin, Sum: most}, {Kind: short, Sum: -1}}, ok},
		"from the least above":       {[]api.Row{{Kind: skin, Sum: least}}, []api.Entry{wideEntry(skin, 0, 1, 0), entry(world, 0, least), entry(ours, 0, least)}, nil, errOver},
		"the least from the most":    {[]api.Row{{Kind: skin, Sum: most}}, []api.Entry{wideEntry(skin, 0, -1, 1), entry(world, 0, most), entry(ours, 0, most), entry(short, 0, 1)}, []api.Row{{Kind: world, Sum: most}, {Kind: ours, Sum: most}, {Kind: skin, Sum: least}, {Kind: short, Sum: 1}}, ok},
		"an X beyond":                {nil, []api.Entry{wideEntry(margin, 1, 0, 1<<63), entry(world, 0, least)}, nil, errOver},
		"an X beyond, that the row's Sum brings back": {[]api.Row{{Kind: margin, N: 1, Sum: -1}}, []api.Entry{wideEntry(margin, 1, 0, 1<<63), entry(world, 0, least)}, []api.Row{{Kind: world, Sum: least}, {Kind: margin, N: 1, Sum: most}}, ok},
		"lower words alone are few":                   {nil, []api.Entry{wideEntry(margin, 1, 1, 5), wideEntry(world, 0, -2, lowMost-4)}, nil, errOver},
		"lower words alone are 0":                     {nil, []api.Entry{wideEntry(margin, 1, 1, 0), wideEntry(world, 0, -1, 0)}, nil, errOver},
		"out of a Wide and back, in one row":          {nil, []api.Entry{wideEntry(skin, 0, highMost, lowMost), wideEntry(skin, 0, highMost, lowMost), wideEntry(skin, 0, highLeast, 1), wideEntry(skin, 0, highLeast, 1)}, nil, ok},
		"of a Wide's ends in one row":                 {nil, []api.Entry{wideEntry(skin, 0, highMost, lowMost), wideEntry(skin, 0, highLeast, 0), entry(world, 0, 1)}, []api.Row{{Kind: world, Sum: 1}, {Kind: skin, Sum: -1}}, ok},
		"together out of a Wide, and back":            {nil, []api.Entry{wideEntry(skin, 0, highMost, lowMost), wideEntry(ours, 0, highMost, lowMost), wideEntry(skin, 0, highLeast, 0), wideEntry(ours, 0, highLeast, 0), entry(world, 0, 2)}, []api.Row{{Kind: world, Sum: 2}, {Kind: ours, Sum: -1}, {Kind: skin, Sum: -1}}, ok},
		"together 0 only within 128 bits":             {nil, []api.Entry{wideEntry(skin, 0, highLeast, 0), wideEntry(ours, 0, highLeast, 0)}, nil, errForm},
		"together 0 only within 128 bits, in one row": {nil, []api.Entry{wideEntry(skin, 0, highLeast, 0), wideEntry(skin, 0, highLeast, 0)}, nil, errForm},
		"two of the greatest and two":                 {nil, []api.Entry{wideEntry(skin, 0, highMost, lowMost), wideEntry(ours, 0, highMost, lowMost), entry(skin, 0, 1), entry(ours, 0, 1)}, nil, errForm},
		"a row that is 0 only within 128 bits":        {nil, []api.Entry{wideEntry(skin, 0, highLeast, 0), wideEntry(skin, 0, highLeast, 0), wideEntry(ours, 0, highMost, lowMost), wideEntry(ours, 0, highMost, lowMost), entry(ours, 0, 2)}, nil, errOver},
		"as many of the least as may be":              {nil, slices.Repeat([]api.Entry{wideEntry(skin, 0, highLeast, 0)}, 400), nil, errForm},
		"of all ends, as many as may be":              {nil, slices.Concat(slices.Repeat([]api.Entry{wideEntry(skin, 0, highLeast, 0)}, 199), slices.Repeat([]api.Entry{wideEntry(skin, 0, highMost, lowMost)}, 199), []api.Entry{entry(fund, 1, 199)}), []api.Row{{Kind: skin, Sum: -199}, {Kind: fund, N: 1, Sum: 199}}, ok},
	} {
		checkPost(t, c.l, c.e)
		if got, code := Post(c.l, c.e); !slices.Equal(got, c.want) || code != c.code {
			t.Errorf("12.2: %s: Post(%v, %v) = %v, %d, want %v, %d", name, c.l, c.e, got, code, c.want, c.code)
		}
	}
}

// TestFormAheadOfOver holds that whatever is ErrForm is so though a row's Sum is beyond an int64, too.
func TestFormAheadOfOver(t *testing.T) {
	over := []api.Entry{wideEntry(margin, 1, 1, 0), wideEntry(world, 0, -1, 0)}
	if got, code := Post(nil, over); len(got) != 0 || code != errOver {
		t.Errorf("12.2: Post(none, %v) = %v, %d, want none, %d", over, got, code, errOver)
	}
	for name, c := range map[string]struct {
		l []api.Row
		e []api.Entry
	}{
		"rows that aren't right": {[]api.Row{{Kind: skin}}, over},
		"too many":               {nil, append(slices.Clone(over), slices.Repeat([]api.Entry{entry(world, 0, 0)}, 399)...)},
		"no key ahead":           {nil, append([]api.Entry{entry(margin, 0, 0)}, over...)},
		"no key behind":          {nil, append(slices.Clone(over), entry(assess, 13, 0))},
		"not 0 together":         {nil, append(slices.Clone(over), entry(skin, 0, 1))},
	} {
		if got, code := Post(c.l, c.e); len(got) != 0 || code != errForm {
			t.Errorf("12.2: %s: Post(%v, %v) = %v, %d, want none, %d", name, c.l, c.e, got, code, errForm)
		}
	}
	for _, row := range []api.Row{{}, {Kind: world, N: 1}, {Kind: margin, Sum: 5}, {Kind: fund, N: 13, Sum: 5}} {
		for _, x := range []int64{least, 0, most} {
			for _, moved := range [][2]api.Row{{row, {Kind: skin}}, {{Kind: skin}, row}, {row, row}} {
				if got, code := Move(fullRows(most), moved[0], moved[1], x); len(got) != 0 || code != errForm {
					t.Errorf("12.2: Move(.., %v, %v, %d) = %v, %d, want none, %d", moved[0], moved[1], x, got, code, errForm)
				}
			}
		}
	}
}

// TestPostOfEach lays one posting of each pair of keys, and of what is no key, into rows of all kinds.
func TestPostOfEach(t *testing.T) {
	all := slices.Concat(allKeys, noKeys())
	for _, l := range rightRows() {
		for i, a := range all {
			for _, b := range []key{a, all[(i+1)%len(all)], all[(i+17)%len(all)], {world, 0}, {assess, 12}} {
				checkPost(t, l, []api.Entry{entry(a.kind, a.n, 20), entry(b.kind, b.n, -20)})
				checkPost(t, l, []api.Entry{entry(b.kind, b.n, -1), entry(a.kind, a.n, 1), entry(a.kind, a.n, 0)})
			}
		}
	}
}

// TestSmallPostings goes through all postings of up to four entries of a few.
func TestSmallPostings(t *testing.T) {
	pool := []api.Entry{entry(world, 0, -1), entry(world, 0, 2), entry(margin, 1, 1), entry(margin, 2, -2), wideEntry(margin, 1, 0, 1<<63), entry(world, 0, least), entry(fund, 13, 0)}
	lists := [][]api.Row{nil, {{Kind: world, Sum: -2}, {Kind: margin, N: 1, Sum: -1}, {Kind: margin, N: 2, Sum: 2}}, {{Kind: margin, N: 1, Sum: -2}, {Kind: skin, Sum: 5}}}
	var extend func(e []api.Entry)
	extend = func(e []api.Entry) {
		for _, l := range lists {
			checkPost(t, l, e)
		}
		if len(e) < 4 {
			for _, x := range pool {
				extend(append(slices.Clone(e), x))
			}
		}
	}
	extend(nil)
}

func TestMove(t *testing.T) {
	some := []api.Row{{Kind: world, Sum: -15}, {Kind: skin, Sum: 5}, {Kind: margin, N: 3, Sum: 7}, {Kind: fund, N: 12, Sum: 3}}
	from, to := api.Row{Kind: world, Sum: 99}, api.Row{Kind: margin, N: 3, Sum: least}
	for name, c := range map[string]struct {
		l        []api.Row
		from, to api.Row
		x        int64
		want     []api.Row
		code     api.Errno
	}{
		"from nothing":         {nil, from, to, 5, []api.Row{{Kind: world, Sum: -5}, {Kind: margin, N: 3, Sum: 5}}, ok},
		"below 0":              {nil, from, to, -5, []api.Row{{Kind: world, Sum: 5}, {Kind: margin, N: 3, Sum: -5}}, ok},
		"of 0":                 {nil, from, to, 0, nil, ok},
		"of 0, from some":      {some, from, to, 0, some, ok},
		"to itself":            {some, to, to, 5, some, ok},
		"to itself, of least":  {some, to, to, least, some, ok},
		"to itself, of most":   {some, to, to, most, some, ok},
		"to itself, not there": {some, api.Row{Kind: ours, Sum: 1}, api.Row{Kind: ours, Sum: 2}, 5, some, ok},
		"all of a row":         {some, to, from, 7, []api.Row{{Kind: world, Sum: -8}, some[1], some[3]}, ok},
		"backwards":            {some, from, to, -7, []api.Row{{Kind: world, Sum: -8}, some[1], some[3]}, ok},
		"of most":              {nil, from, to, most, []api.Row{{Kind: world, Sum: -most}, {Kind: margin, N: 3, Sum: most}}, ok},
		"of one above least":   {nil, from, to, least + 1, []api.Row{{Kind: world, Sum: most}, {Kind: margin, N: 3, Sum: least + 1}}, ok},
		"of least":             {nil, from, to, least, nil, errOver},
		"of least, held":       {[]api.Row{{Kind: world, Sum: -1}}, from, to, least, []api.Row{{Kind: world, Sum: most}, {Kind: margin, N: 3, Sum: least}}, ok},
		"of least, to nothing": {[]api.Row{{Kind: world, Sum: least}, {Kind: ours, Sum: 1}}, from, api.Row{Kind: ours}, least, []api.Row{{Kind: ours, Sum: least + 1}}, ok},
		"above":                {some, from, to, most, nil, errOver},
		"below":                {[]api.Row{{Kind: world, Sum: -2}}, from, to, most, nil, errOver},
		"just the least":       {[]api.Row{{Kind: world, Sum: -1}}, from, to, most, []api.Row{{Kind: world, Sum: least}, {Kind: margin, N: 3, Sum: most}}, ok},
		"from no key":          {nil, api.Row{Kind: world, N: 1}, to, 5, nil, errForm},
		"to no key":            {nil, from, api.Row{Kind: margin}, 5, nil, errForm},
		"to no key, of 0":      {nil, from, api.Row{Kind: margin, N: 25}, 0, nil, errForm},
		"from nothing at all":  {some, api.Row{}, api.Row{}, 0, nil, errForm},
	} {
		if got, code := Move(c.l, c.from, c.to, c.x); !slices.Equal(got, c.want) || code != c.code {
			t.Errorf("12.2: %s: Move(%v, %v, %v, %d) = %v, %d, want %v, %d", name, c.l, c.from, c.to, c.x, got, code, c.want, c.code)
		}
	}
}

// TestMoveOfEach moves from each key, and from what is no key, to each, with Sums in them that play no part.
func TestMoveOfEach(t *testing.T) {
	all := slices.Concat(allKeys, noKeys())
	l := six()
	for _, a := range all {
		for _, b := range all {
			for _, x := range []int64{5, 0, least} {
				want, code := checkMove(t, l, a, b, x)
				for _, sums := range [][2]int64{{1, 1}, {least, most}, {-x, x}} {
					from, to := api.Row{Kind: a.kind, N: a.n, Sum: sums[0]}, api.Row{Kind: b.kind, N: b.n, Sum: sums[1]}
					if got, other := Move(l, from, to, x); !slices.Equal(got, want) || other != code {
						t.Errorf("12.2: Move(%v, %v, %v, %d) = %v, %d, with Sums of 0 %v, %d", l, from, to, x, got, other, want, code)
					}
				}
			}
		}
	}
}

func TestMovesAtTheBounds(t *testing.T) {
	few := []key{{world, 0}, {ours, 0}, {margin, 1}, {assess, 12}}
	near := []int64{least, least + 1, -1 << 62, -2, -1, 0, 1, 2, 1 << 62, most - 1, most}
	for _, a := range near {
		for _, b := range near {
			l, _ := rowsOf(map[key]*big.Int{few[0]: big.NewInt(a), few[2]: big.NewInt(b)})
			for _, from := range few {
				for _, to := range few {
					for _, x := range near {
						checkMove(t, l, from, to, x)
					}
				}
			}
		}
	}
}
