package roll

import (
	"math"
	"strconv"
	"testing"

	"novation/api"
)

// five are accounts of the four: houses and clients, with room ahead of all, between any two, and behind all.
func five() []api.Acc {
	return []api.Acc{
		{Id: 2, Member: 4, Kind: client, Limit: 7},
		{Id: 5, Member: 2, Kind: house, Limit: mostLimit},
		{Id: 8, Member: 2, Kind: client},
		{Id: 13, Member: 11, Kind: house, Limit: 1},
		{Id: 20, Member: 7, Kind: client, Limit: 900},
	}
}

// fullAccs are as many accounts as may be, two of each member.
func fullAccs() []api.Acc {
	var a []api.Acc
	for id := 1; id <= mostAccs; id++ {
		a = append(a, api.Acc{Id: id, Member: (id + 1) / 2, Kind: 1 + id%2, Limit: int64(id)})
	}
	return a
}

// rightAccs are lists of accounts that are right, by names. Those who own them need not be members.
func rightAccs() map[string][]api.Acc {
	return map[string][]api.Acc{
		"nil":              nil,
		"none":             {},
		"none with room":   five()[:0],
		"the least":        {{Id: 1, Member: 1, Kind: house}},
		"the greatest":     {{Id: 24, Member: 12, Kind: client, Limit: mostLimit}},
		"the ends":         {{Id: 1, Member: 12, Kind: client, Limit: mostLimit}, {Id: 24, Member: 1, Kind: house}},
		"two members' own": {{Id: 1, Member: 3, Kind: house}, {Id: 2, Member: 4, Kind: house}},
		"all members' own": {{Id: 1, Member: 12, Kind: house}, {Id: 2, Member: 11, Kind: house}, {Id: 3, Member: 1, Kind: house}, {Id: 9, Member: 2, Kind: house}},
		"a house and clients": {{Id: 3, Member: 3, Kind: client}, {Id: 4, Member: 3, Kind: house},
			{Id: 5, Member: 3, Kind: client}, {Id: 6, Member: 3, Kind: client}},
		"clients alone": {{Id: 3, Member: 3, Kind: client}, {Id: 4, Member: 3, Kind: client}},
		"five":          five(),
		"full":          fullAccs(),
	}
}

// wrongAccs are lists of accounts that aren't right, by names.
func wrongAccs() map[string][]api.Acc {
	wrong := map[string][]api.Acc{
		"nothing in it":      {{}},
		"fall":               {{Id: 2, Member: 1, Kind: client}, {Id: 1, Member: 1, Kind: client}},
		"alike":              {{Id: 2, Member: 1, Kind: client}, {Id: 2, Member: 1, Kind: client}},
		"alike but for else": {{Id: 2, Member: 1, Kind: client}, {Id: 2, Member: 2, Kind: house, Limit: 1}},
		"two houses":         {{Id: 1, Member: 12, Kind: house}, {Id: 2, Member: 12, Kind: house}},
		"two houses, apart": {{Id: 1, Member: 12, Kind: house}, {Id: 2, Member: 1, Kind: house},
			{Id: 3, Member: 12, Kind: client}, {Id: 24, Member: 12, Kind: house, Limit: 1}},
		"three houses": {{Id: 1, Member: 1, Kind: house}, {Id: 2, Member: 1, Kind: house}, {Id: 3, Member: 1, Kind: house}},
		"one too many": append(fullAccs(), api.Acc{Id: 25, Member: 1, Kind: client}),
	}
	lay := func(name string, x int, turn func(*api.Acc)) {
		for place := range five() {
			a := five()
			turn(&a[place])
			wrong[name+strconv.Itoa(x)+" at "+strconv.Itoa(place)] = a
		}
	}
	for _, x := range []int{0, -1, 25, 1<<32 + 6, math.MinInt, math.MaxInt} {
		lay("an id of ", x, func(a *api.Acc) { a.Id = x })
	}
	for _, x := range []int{0, -1, 13, 1<<32 + 2, math.MinInt, math.MaxInt} {
		lay("a member of ", x, func(a *api.Acc) { a.Member = x })
	}
	for _, x := range []int{0, -1, 3, 1<<8 + client, 1<<32 + house, math.MinInt, math.MaxInt} {
		lay("a kind of ", x, func(a *api.Acc) { a.Kind = x })
	}
	for _, x := range []int{-1, mostLimit + 1, math.MinInt, math.MaxInt} {
		lay("a limit of ", x, func(a *api.Acc) { a.Limit = int64(x) })
	}
	for place := range len(five()) - 1 {
		a := five()
		a[place], a[place+1] = a[place+1], a[place]
		wrong["turned about at "+strconv.Itoa(place)] = a
		a = five()
		a[place+1].Id = a[place].Id
		wrong["two alike at "+strconv.Itoa(place)] = a
	}
	return wrong
}

// all are members with each id there may be, of this status.
func all(status int) []api.Member {
	m := full()
	for i := range m {
		m[i].Status = status
	}
	return m
}

func TestAccsThatAreRight(t *testing.T) {
	for name, a := range rightAccs() {
		if !Accs(a) || !Right(full(), a) {
			t.Errorf("11.1: %s: Accs(%v) = %v, Right = %v, want true", name, a, Accs(a), Right(full(), a))
		}
	}
}

func TestAccsThatAreWrong(t *testing.T) {
	for name, a := range wrongAccs() {
		if Accs(a) || Right(full(), a) {
			t.Errorf("11.1: %s: Accs(%v) = %v, Right = %v, want false", name, a, Accs(a), Right(full(), a))
		}
	}
}

// TestCallsOfAccsThatAreWrong asks of lists that aren't right whatever else is asked: zeros, and ErrForm ahead of all other codes.
func TestCallsOfAccsThatAreWrong(t *testing.T) {
	for name, a := range wrongAccs() {
		for _, id := range ids() {
			if got, found := Find(a, id); got != (api.Acc{}) || found {
				t.Errorf("11.1: %s: Find(%v, %d) = %v, %v, want none", name, a, id, got, found)
			}
			if got := House(a, id); got != 0 {
				t.Errorf("11.1: %s: House(%v, %d) = %d, want 0", name, a, id, got)
			}
			if got := Owned(a, id); len(got) != 0 {
				t.Errorf("11.1: %s: Owned(%v, %d) = %v, want none", name, a, id, got)
			}
			for _, m := range [][]api.Member{nil, four(), all(active), all(closed)} {
				x := api.Acc{Id: 24, Member: id, Kind: client}
				if got, code := Open(m, a, x); len(got) != 0 || code != errForm {
					t.Errorf("11.1: %s: Open(%v, %v, %v) = %v, %d, want none, %d", name, m, a, x, got, code, errForm)
				}
				for _, to := range []int{-1, 2, 4, 13} {
					if got, code := Port(m, a, id, to); len(got) != 0 || code != errForm {
						t.Errorf("11.1: %s: Port(%v, %v, %d, %d) = %v, %d, want none, %d", name, m, a, id, to, got, code, errForm)
					}
				}
			}
			for _, q := range []int64{-1, 0, 5, mostLimit + 1} {
				if got, code := Limit(a, id, q); len(got) != 0 || code != errForm {
					t.Errorf("11.1: %s: Limit(%v, %d, %d) = %v, %d, want none, %d", name, a, id, q, got, code, errForm)
				}
			}
		}
	}
}

// TestRightOfNobodysAccount takes each member away: who owns an account must be among the members, of whatever status.
func TestRightOfNobodysAccount(t *testing.T) {
	for status := active; status <= closed; status++ {
		for _, a := range rightAccs() {
			for place := range mostMembers {
				m := append(all(status)[:place], all(status)[place+1:]...)
				want := len(wantOwned(a, place+1)) == 0
				if got := Right(m, a); got != want || !Accs(a) || !Members(m) {
					t.Errorf("11.1: Right(%v, %v) = %v, want %v", m, a, got, want)
				}
				for _, id := range []int{0, 1, 2, 5, 8, 24} {
					checkOpen(t, m, a, api.Acc{Id: id, Member: 3, Kind: client})
					checkPort(t, m, a, id, 3)
					checkPort(t, m, a, id, place+1)
				}
			}
		}
	}
	for name, a := range rightAccs() {
		if got, want := Right(nil, a), len(a) == 0; got != want {
			t.Errorf("11.1: %s: Right of no members = %v, want %v", name, got, want)
		}
	}
}

// TestNobodysAccountIsErrForm hands on accounts of who is no member: right for themselves, and not with the members.
func TestNobodysAccountIsErrForm(t *testing.T) {
	a := five()
	a[4].Member = 12
	for _, id := range ids() {
		checkFind(t, a, id)
		checkHouse(t, a, id)
		checkOwned(t, a, id)
		checkLimit(t, a, id, 4)
		x := api.Acc{Id: 6, Member: id, Kind: client}
		if got, code := Open(four(), a, x); len(got) != 0 || code != errForm {
			t.Errorf("11.1: Open(%v, %v, %v) = %v, %d, want none, %d", four(), a, x, got, code, errForm)
		}
		for _, to := range []int{0, 2, 4, 12} {
			if got, code := Port(four(), a, id, to); len(got) != 0 || code != errForm {
				t.Errorf("11.1: Port(%v, %v, %d, %d) = %v, %d, want none, %d", four(), a, id, to, got, code, errForm)
			}
		}
	}
}

func TestCallsOfAccsThatAreRight(t *testing.T) {
	for _, a := range rightAccs() {
		for _, id := range ids() {
			checkFind(t, a, id)
			checkHouse(t, a, id)
			checkOwned(t, a, id)
			for _, q := range []int64{math.MinInt64, -1, 0, 1, 7, mostLimit - 1, mostLimit, mostLimit + 1, math.MaxInt64} {
				checkLimit(t, a, id, q)
			}
			for _, m := range rightMembers() {
				for _, to := range ids() {
					checkPort(t, m, a, id, to)
				}
			}
		}
	}
}

// TestOpenOfEach opens, among all lists that are right, accounts with fields at their bounds, one beyond, and within.
func TestOpenOfEach(t *testing.T) {
	for _, m := range rightMembers() {
		for _, a := range rightAccs() {
			for _, id := range []int{-1, 0, 1, 3, 5, 13, 24, 25, 1<<32 + 3} {
				for _, member := range []int{-1, 0, 1, 2, 3, 4, 7, 11, 12, 13, 1<<32 + 2} {
					for _, kind := range []int{-1, 0, house, client, 3, 1<<32 + client} {
						for _, limit := range []int64{math.MinInt64, -1, 0, 1, mostLimit, mostLimit + 1, math.MaxInt64} {
							checkOpen(t, m, a, api.Acc{Id: id, Member: member, Kind: kind, Limit: limit})
						}
					}
				}
			}
		}
	}
}

// TestAllPairs goes over each list of two accounts with fields at the bounds, one beyond, and within.
func TestAllPairs(t *testing.T) {
	var each []api.Acc
	for _, id := range []int{0, 1, 2, 24, 25} {
		for _, member := range []int{0, 1, 2, 12, 13} {
			for _, kind := range []int{0, house, client, 3} {
				for _, limit := range []int64{-1, 0, mostLimit, mostLimit + 1} {
					each = append(each, api.Acc{Id: id, Member: member, Kind: kind, Limit: limit})
				}
			}
		}
	}
	right := 0
	for _, x := range each {
		if got, want := Accs([]api.Acc{x}), toldAccs([]api.Acc{x}); got != want {
			t.Errorf("11.1: Accs of %v = %v, want %v", x, got, want)
		}
		for _, y := range each {
			a := []api.Acc{x, y}
			want := toldAccs(a)
			if got := Accs(a); got != want || Right(full(), a) != want {
				t.Errorf("11.1: Accs(%v) = %v, Right = %v, want %v", a, got, Right(full(), a), want)
			}
			if !want {
				continue
			}
			right++
			for _, id := range []int{0, 1, 2, 12, 24, 25} {
				checkFind(t, a, id)
				checkHouse(t, a, id)
				checkOwned(t, a, id)
			}
		}
	}
	// Three pairs of ids that rise; 3 members by 2 kinds by 2 limits each, but for two houses of one member.
	if want := 3 * (12*12 - 3*2*2); right != want {
		t.Errorf("11.1: %d of the pairs are right, want %d", right, want)
	}
}

func TestFindByHand(t *testing.T) {
	for _, want := range five() {
		if got, found := Find(five(), want.Id); got != want || !found {
			t.Errorf("11.2: Find of %d = %v, %v, want %v, true", want.Id, got, found, want)
		}
	}
	for _, id := range []int{0, 1, 3, 4, 6, 12, 14, 21, 24, 25, -2, 1<<32 + 5} {
		if got, found := Find(five(), id); got != (api.Acc{}) || found {
			t.Errorf("11.2: Find of %d = %v, %v, want none", id, got, found)
		}
	}
	for _, a := range [][]api.Acc{nil, {}} {
		if got, found := Find(a, 1); got != (api.Acc{}) || found {
			t.Errorf("11.2: Find among none = %v, %v, want none", got, found)
		}
	}
}

func TestHouseByHand(t *testing.T) {
	for member, want := range map[int]int{2: 5, 11: 13, 4: 0, 7: 0, 1: 0, 12: 0, 0: 0, 13: 0, -2: 0, 1<<32 + 2: 0} {
		if got := House(five(), member); got != want {
			t.Errorf("11.2: House of %d = %d, want %d", member, got, want)
		}
		// The chapter's example.
		if House(nil, member) != 0 || House([]api.Acc{}, member) != 0 {
			t.Errorf("11.2: House of no accounts, of %d = %d, want 0", member, House(nil, member))
		}
	}
}

func TestOwnedByHand(t *testing.T) {
	for member, want := range map[int][]int{2: {5, 8}, 4: {2}, 7: {20}, 11: {13}, 1: nil, 12: nil, 0: nil, 13: nil, -2: nil, 1<<32 + 2: nil} {
		checkList(t, "11.2: Owned", Owned(five(), member), ok, want, ok, member)
		checkList(t, "11.2: Owned", Owned(nil, member), ok, nil, ok, member)
	}
	var a []api.Acc
	var want []int
	for id := 1; id <= mostAccs; id++ {
		a = append(a, api.Acc{Id: id, Member: 12, Kind: client})
		want = append(want, id)
	}
	checkList(t, "11.2: Owned of all", Owned(a, 12), ok, want, ok)
}

func TestOpenByHand(t *testing.T) {
	opened := func(place int, x api.Acc) []api.Acc {
		a := append(five()[:place], x)
		return append(a, five()[place:]...)
	}
	ahead := api.Acc{Id: 1, Member: 2, Kind: client}
	between := api.Acc{Id: 9, Member: 2, Kind: client, Limit: mostLimit}
	behind := api.Acc{Id: 24, Member: 2, Kind: client, Limit: 3}
	for _, c := range []struct {
		name string
		x    api.Acc
		want []api.Acc
		code api.Errno
	}{
		{"ahead of all", ahead, opened(0, ahead), ok},
		{"between two", between, opened(3, between), ok},
		{"behind all", behind, opened(5, behind), ok},
		{"an id of 0", api.Acc{Id: 0, Member: 2, Kind: client}, nil, errForm},
		{"an id of 25", api.Acc{Id: 25, Member: 2, Kind: client}, nil, errForm},
		{"a member of 0", api.Acc{Id: 1, Member: 0, Kind: client}, nil, errForm},
		{"a member of 13", api.Acc{Id: 1, Member: 13, Kind: client}, nil, errForm},
		{"a kind of 0", api.Acc{Id: 1, Member: 2}, nil, errForm},
		{"a kind of 3", api.Acc{Id: 1, Member: 2, Kind: 3}, nil, errForm},
		{"a limit below 0", api.Acc{Id: 1, Member: 2, Kind: client, Limit: -1}, nil, errForm},
		{"a limit beyond", api.Acc{Id: 1, Member: 2, Kind: client, Limit: mostLimit + 1}, nil, errForm},
		{"not right, of nobody", api.Acc{Id: 25, Member: 1, Kind: client}, nil, errForm},
		{"not right, of one suspended", api.Acc{Id: 1, Member: 4, Kind: 3}, nil, errForm},
		{"not right, there", api.Acc{Id: 5, Member: 2, Kind: house, Limit: -1}, nil, errForm},
		{"of nobody", api.Acc{Id: 1, Member: 3, Kind: client}, nil, errNone},
		{"of nobody, there", api.Acc{Id: 5, Member: 12, Kind: house}, nil, errNone},
		{"of one suspended", api.Acc{Id: 1, Member: 4, Kind: client}, nil, errSusp},
		{"of one defaulted", api.Acc{Id: 1, Member: 7, Kind: house}, nil, errSusp},
		{"of one closed", api.Acc{Id: 1, Member: 11, Kind: client}, nil, errSusp},
		{"of one suspended, there", api.Acc{Id: 2, Member: 4, Kind: client, Limit: 7}, nil, errSusp},
		{"of one closed, a second house", api.Acc{Id: 1, Member: 11, Kind: house}, nil, errSusp},
		{"there", api.Acc{Id: 8, Member: 2, Kind: client}, nil, errThere},
		{"there, another member's", api.Acc{Id: 2, Member: 2, Kind: client}, nil, errThere},
		{"a second house", api.Acc{Id: 1, Member: 2, Kind: house}, nil, errThere},
		{"a second house, there", api.Acc{Id: 5, Member: 2, Kind: house, Limit: mostLimit}, nil, errThere},
	} {
		got, code := Open(four(), five(), c.x)
		checkList(t, "11.3: Open, "+c.name, got, code, c.want, c.code, c.x)
	}
}

func TestOpenTheFirst(t *testing.T) {
	m := []api.Member{{Id: 3, Status: active}, {Id: 9, Status: active}}
	for _, x := range []api.Acc{{Id: 1, Member: 3, Kind: house}, {Id: 24, Member: 9, Kind: client, Limit: mostLimit}, {Id: 6, Member: 9, Kind: house, Limit: 1}} {
		for _, a := range [][]api.Acc{nil, {}} {
			got, code := Open(m, a, x)
			checkList(t, "11.3: Open", got, code, []api.Acc{x}, ok, x)
		}
	}
	a := []api.Acc{{Id: 7, Member: 3, Kind: house}, {Id: 8, Member: 9, Kind: client}}
	own := api.Acc{Id: 12, Member: 9, Kind: house}
	got, code := Open(m, a, own)
	checkList(t, "11.3: Open, another member's house", got, code, append(a, own), ok, own)
}

func TestLimitByHand(t *testing.T) {
	for place, x := range five() {
		for _, q := range []int64{0, 1, x.Limit, mostLimit - 1, mostLimit} {
			want := five()
			want[place].Limit = q
			got, code := Limit(five(), x.Id, q)
			checkList(t, "11.3: Limit", got, code, want, ok, x.Id, q)
		}
		for _, q := range []int64{-1, mostLimit + 1, math.MinInt64, math.MaxInt64} {
			got, code := Limit(five(), x.Id, q)
			checkList(t, "11.3: Limit", got, code, nil, errForm, x.Id, q)
		}
	}
	for _, id := range []int{0, 1, 3, 24, 25, -1, 1<<32 + 5} {
		got, code := Limit(five(), id, 0)
		checkList(t, "11.3: Limit of none", got, code, nil, errNone, id)
		got, code = Limit(five(), id, -1)
		checkList(t, "11.3: Limit of none, not right", got, code, nil, errForm, id)
		got, code = Limit(nil, id, mostLimit)
		checkList(t, "11.3: Limit among none", got, code, nil, errNone, id)
		got, code = Limit(nil, id, mostLimit+1)
		checkList(t, "11.3: Limit among none, not right", got, code, nil, errForm, id)
	}
}

func TestPortByHand(t *testing.T) {
	m := append(four(), api.Member{Id: 12, Status: active})
	for _, c := range []struct {
		name   string
		id, to int
		code   api.Errno
	}{
		{"of one suspended", 2, 2, ok},
		{"of one suspended, to the last", 2, 12, ok},
		{"of one active", 8, 12, ok},
		{"to whose it is", 8, 2, ok},
		{"of one defaulted", 20, 12, ok},
		{"an account that isn't there", 3, 2, errNone},
		{"account 0", 0, 2, errNone},
		{"account 25", 25, 2, errNone},
		{"an account in the lower bits alone", 1<<32 + 2, 2, errNone},
		{"a member that isn't there", 2, 3, errNone},
		{"member 0", 2, 0, errNone},
		{"member 13", 2, 13, errNone},
		{"a member in the lower bits alone", 2, 1<<32 + 2, errNone},
		{"neither is there", 3, 3, errNone},
		{"an account that isn't there, to one suspended", 3, 4, errNone},
		{"a house, to nobody", 5, 3, errNone},
		{"a house", 5, 12, errState},
		{"a house, to whose it is", 5, 2, errState},
		{"a house of one closed", 13, 12, errState},
		{"a house, to one suspended", 5, 4, errState},
		{"a house, to one closed", 13, 11, errState},
		{"to one suspended", 8, 4, errSusp},
		{"to one defaulted", 8, 7, errSusp},
		{"to one closed", 8, 11, errSusp},
		{"to whose it is, suspended", 2, 4, errSusp},
		{"to whose it is, defaulted", 20, 7, errSusp},
	} {
		var want []api.Acc
		if c.code == ok {
			want = five()
			for place := range want {
				if want[place].Id == c.id {
					want[place].Member = c.to
				}
			}
		}
		got, code := Port(m, five(), c.id, c.to)
		checkList(t, "11.3: Port, "+c.name, got, code, want, c.code, c.id, c.to)
	}
	got, code := Port(m, nil, 2, 2)
	checkList(t, "11.3: Port among none", got, code, nil, errNone)
	got, code = Port(nil, nil, 2, 2)
	checkList(t, "11.3: Port among none, of nobody", got, code, nil, errNone)
}
