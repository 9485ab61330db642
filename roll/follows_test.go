package roll

import (
	"slices"
	"testing"

	"novation/api"
)

// rolls are members and accounts over which calls are made, one behind the other.
type rolls struct {
	m []api.Member
	a []api.Acc
}

// step makes one call by chance, of what may be and of what may not, and holds it against the model. What is refused leaves all as it was.
func (r *rolls) step(t *testing.T, s *noise) api.Errno {
	t.Helper()
	member, id := s.upTo(mostMembers+1), s.upTo(mostAccs+1)
	var code api.Errno
	m, a := r.m, r.a
	switch s.upTo(9) {
	case 0:
		checkEnrol(t, r.m, member)
		m, code = Enrol(r.m, member)
	case 1, 2:
		kind := pick(s, []int{0, enrol, suspend, reinstate, reinstate, dflt, allocate})
		checkTurn(t, r.m, member, kind)
		m, code = Turn(r.m, member, kind)
	case 3, 4, 5:
		x := api.Acc{Id: id, Member: member, Kind: pick(s, []int{0, house, client, client, client}), Limit: pick(s, []int64{-1, 0, 5, mostLimit, mostLimit, mostLimit + 1})}
		checkOpen(t, r.m, r.a, x)
		a, code = Open(r.m, r.a, x)
	case 6:
		q := pick(s, []int64{-1, 0, 1, 77, mostLimit, mostLimit + 1})
		checkLimit(t, r.a, id, q)
		a, code = Limit(r.a, id, q)
	default:
		checkPort(t, r.m, r.a, id, member)
		a, code = Port(r.m, r.a, id, member)
	}
	if code == ok {
		r.m, r.a = m, a
	}
	return code
}

// TestWhatComesOutIsRight goes on from nothing, by whatever calls: the members and accounts stay right, each alone and both together.
func TestWhatComesOutIsRight(t *testing.T) {
	told := map[api.Errno]int{}
	for seed := range noise(60) {
		s := seed
		var r rolls
		for range 400 {
			told[r.step(t, &s)]++
			if !Members(r.m) || !Accs(r.a) || !Right(r.m, r.a) || !toldRight(r.m, r.a) {
				t.Fatalf("11.4: what came out isn't right: %v, %v", r.m, r.a)
			}
			if len(r.m) > mostMembers || len(r.a) > mostAccs {
				t.Fatalf("11.4: too many came out: %v, %v", r.m, r.a)
			}
		}
	}
	for _, code := range []api.Errno{ok, errForm, errNone, errThere, errSusp, errState} {
		if told[code] == 0 {
			t.Errorf("11.4: on no way the code %d was told", code)
		}
	}
}

// TestAccountsStayRight turns and enrols members below accounts: each account's member stays there.
func TestAccountsStayRight(t *testing.T) {
	for _, id := range ids() {
		if got, code := Enrol(four(), id); code == ok && !Right(got, five()) {
			t.Errorf("11.4: behind Enrol(%d) the accounts aren't right", id)
		}
		for _, kind := range kinds() {
			if got, code := Turn(four(), id, kind); code == ok && !Right(got, five()) {
				t.Errorf("11.4: behind Turn(%d, %d) the accounts aren't right", id, kind)
			}
		}
	}
}

// room is l in memory with items behind it, all of which is kept to be held against later.
type room[T comparable] struct{ all, before, list []T }

func roomy[T comparable](l []T, behind ...T) room[T] {
	all := slices.Concat(l, behind)
	return room[T]{all, slices.Clone(all), all[:len(l)]}
}

// same tells whether list and spare room are what they were.
func (r room[T]) same() bool { return slices.Equal(r.all, r.before) }

// spoil writes x all over what was answered, its spare room too.
func spoil[T any](l []T, x T) {
	l = l[:cap(l)]
	for i := range l {
		l[i] = x
	}
}

// checkMemory makes a call that answers a list, twice: what is handed in stays as it was, whatever is done to the answers, and each answer stays whatever is done to the other and to what was handed in.
func checkMemory[T comparable](t *testing.T, name string, m []api.Member, a []api.Acc, bad T, call func([]api.Member, []api.Acc) []T) {
	t.Helper()
	members := roomy(m, api.Member{Id: 9, Status: 9}, api.Member{Id: 8, Status: 8})
	accs := roomy(a, api.Acc{Id: 77}, api.Acc{Id: 78}, api.Acc{Id: 79})
	first := call(members.list, accs.list)
	second := call(members.list, accs.list)
	want := slices.Clone(first)
	if !members.same() || !accs.same() {
		t.Errorf("%s: what was handed in is %v, %v, and was %v, %v", name, members.all, accs.all, members.before, accs.before)
	}
	spoil(first, bad)
	if !members.same() || !accs.same() {
		t.Errorf("%s: the answer has memory of what was handed in", name)
	}
	if !slices.Equal(second, want) {
		t.Errorf("%s: the second answer is %v, want %v", name, second, want)
	}
	spoil(members.list, api.Member{})
	spoil(accs.list, api.Acc{})
	if !slices.Equal(second, want) {
		t.Errorf("%s: the answer turned with what was handed in: %v, want %v", name, second, want)
	}
	again := call(slices.Clone(m), slices.Clone(a))
	if !slices.Equal(again, want) {
		t.Errorf("%s: the third answer is %v, want %v", name, again, want)
	}
}

// checkMemories asks checkMemory of each call that answers a list.
func checkMemories(t *testing.T, m []api.Member, a []api.Acc, id, member, kind int, q int64, x api.Acc) {
	t.Helper()
	badMember, badAcc := api.Member{Id: -5, Status: -6}, api.Acc{Id: -7, Member: -8}
	checkMemory(t, "11.2: Enrol, R4", m, a, badMember, func(m []api.Member, _ []api.Acc) []api.Member {
		got, _ := Enrol(m, member)
		return got
	})
	checkMemory(t, "11.2: Turn, R4", m, a, badMember, func(m []api.Member, _ []api.Acc) []api.Member {
		got, _ := Turn(m, member, kind)
		return got
	})
	checkMemory(t, "11.2: Owned, R4", m, a, -9, func(_ []api.Member, a []api.Acc) []int {
		return Owned(a, member)
	})
	checkMemory(t, "11.3: Open, R4", m, a, badAcc, func(m []api.Member, a []api.Acc) []api.Acc {
		got, _ := Open(m, a, x)
		return got
	})
	checkMemory(t, "11.3: Limit, R4", m, a, badAcc, func(_ []api.Member, a []api.Acc) []api.Acc {
		got, _ := Limit(a, id, q)
		return got
	})
	checkMemory(t, "11.3: Port, R4", m, a, badAcc, func(m []api.Member, a []api.Acc) []api.Acc {
		got, _ := Port(m, a, id, member)
		return got
	})
}

func TestMemory(t *testing.T) {
	for _, m := range [][]api.Member{nil, {}, four(), full(), {{Id: 2, Status: active}, {Id: 1, Status: active}}} {
		for _, a := range [][]api.Acc{nil, {}, five(), {{Id: 2, Member: 2, Kind: client}, {Id: 1, Member: 2, Kind: client}}} {
			for member := range mostMembers + 2 {
				for _, id := range []int{0, 1, 2, 5, 8, 9, 20, 24, 25} {
					for _, kind := range []int{suspend, dflt, allocate} {
						x := api.Acc{Id: id, Member: member, Kind: 1 + id%2, Limit: 3}
						checkMemories(t, m, a, id, member, kind, 6, x)
						checkMemories(t, m, a, id, member, reinstate, -1, x)
					}
				}
			}
		}
	}
}

// TestAskingLeavesAll asks what answers no list: what is handed in stays as it was, and is not kept.
func TestAskingLeavesAll(t *testing.T) {
	for _, m := range [][]api.Member{nil, four(), full(), {{Id: 2, Status: active}, {Id: 1, Status: active}}} {
		for _, a := range [][]api.Acc{nil, five(), fullAccs(), {{Id: 2, Member: 2, Kind: house}, {Id: 3, Member: 2, Kind: house}}} {
			members, accs := roomy(m, api.Member{Id: 9, Status: 9}), roomy(a, api.Acc{Id: 77})
			for _, id := range ids() {
				for range 2 {
					if Members(members.list) != toldMembers(m) || Accs(accs.list) != toldAccs(a) || Right(members.list, accs.list) != toldRight(m, a) {
						t.Errorf("11.1: Members, Accs, Right of %v, %v", m, a)
					}
					checkStatus(t, members.list, id)
					checkFind(t, accs.list, id)
					checkHouse(t, accs.list, id)
				}
			}
			if !members.same() || !accs.same() {
				t.Errorf("11.1: what was handed in is %v, %v, and was %v, %v, R4", members.all, accs.all, members.before, accs.before)
			}
		}
	}
}

// TestNothingIsKept turns a list between two calls: each is answered by what it is then.
func TestNothingIsKept(t *testing.T) {
	m, a := four(), five()
	checkStatus(t, m, 2)
	checkPort(t, m, a, 8, 2)
	m[0].Status, a[2].Kind = closed, house
	a[1].Kind = client
	checkStatus(t, m, 2)
	checkPort(t, m, a, 8, 2)
	checkHouse(t, a, 2)
	m[0].Id = 4
	a[2].Id = 5
	checkStatus(t, m, 4)
	checkPort(t, m, a, 8, 2)
	checkFind(t, a, 5)
	m[0].Id, m[0].Status = 2, active
	a[2].Id, a[2].Kind = 8, client
	checkStatus(t, m, 2)
	checkPort(t, m, a, 8, 2)
	checkFind(t, a, 8)
}
