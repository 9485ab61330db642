package roll

import (
	"math"
	"slices"
	"strconv"
	"testing"

	"novation/api"
)

// four are members of each status, with room ahead of all, between any two, and behind all.
func four() []api.Member {
	return []api.Member{{Id: 2, Status: active}, {Id: 4, Status: suspended}, {Id: 7, Status: defaulted}, {Id: 11, Status: closed}}
}

// full are as many members as may be, of all statuses.
func full() []api.Member {
	var m []api.Member
	for id := 1; id <= mostMembers; id++ {
		m = append(m, api.Member{Id: id, Status: 1 + id%4})
	}
	return m
}

// rightMembers are lists of members that are right, by names.
func rightMembers() map[string][]api.Member {
	return map[string][]api.Member{
		"nil":                  nil,
		"none":                 {},
		"none with room":       four()[:0],
		"the least id":         {{Id: 1, Status: active}},
		"the greatest id":      {{Id: 12, Status: active}},
		"the greatest status":  {{Id: 6, Status: closed}},
		"the ends":             {{Id: 1, Status: closed}, {Id: 12, Status: active}},
		"one beside the other": {{Id: 5, Status: defaulted}, {Id: 6, Status: suspended}},
		"all of one status":    {{Id: 1, Status: closed}, {Id: 2, Status: closed}, {Id: 3, Status: closed}},
		"four":                 four(),
		"full":                 full(),
	}
}

// wrongMembers are lists of members that aren't right, by names.
func wrongMembers() map[string][]api.Member {
	wrong := map[string][]api.Member{
		"an id of 0":             {{Id: 0, Status: active}},
		"an id of 13":            {{Id: 13, Status: active}},
		"a status of 0":          {{Id: 1, Status: 0}},
		"a status of 5":          {{Id: 1, Status: 5}},
		"nothing in it":          {{}},
		"fall":                   {{Id: 2, Status: active}, {Id: 1, Status: active}},
		"fall from the greatest": {{Id: 12, Status: active}, {Id: 1, Status: active}},
		"alike":                  {{Id: 2, Status: active}, {Id: 2, Status: active}},
		"alike but for a status": {{Id: 2, Status: active}, {Id: 2, Status: suspended}},
		"alike, not side by side": {{Id: 2, Status: active}, {Id: 3, Status: active},
			{Id: 2, Status: active}},
		"one too many": append(full(), api.Member{Id: 13, Status: active}),
	}
	lay := func(name string, x int, turn func(*api.Member)) {
		for place := range four() {
			m := four()
			turn(&m[place])
			wrong[name+strconv.Itoa(x)+" at "+strconv.Itoa(place)] = m
		}
	}
	for _, x := range []int{0, -1, 13, 1<<32 + 5, math.MinInt, math.MaxInt} {
		lay("an id of ", x, func(m *api.Member) { m.Id = x })
	}
	for _, x := range []int{0, -1, 5, 1<<8 + active, 1<<32 + active, math.MinInt, math.MaxInt} {
		lay("a status of ", x, func(m *api.Member) { m.Status = x })
	}
	for place := range len(four()) - 1 {
		m := four()
		m[place], m[place+1] = m[place+1], m[place]
		wrong["turned about at "+strconv.Itoa(place)] = m
		m = four()
		m[place+1].Id = m[place].Id
		wrong["two alike at "+strconv.Itoa(place)] = m
	}
	return wrong
}

func TestMembersThatAreRight(t *testing.T) {
	for name, m := range rightMembers() {
		if !Members(m) || !Right(m, nil) || !Right(m, []api.Acc{}) {
			t.Errorf("11.1: %s: Members(%v) = %v, Right = %v, want true", name, m, Members(m), Right(m, nil))
		}
	}
}

func TestMembersThatAreWrong(t *testing.T) {
	for name, m := range wrongMembers() {
		if Members(m) || Right(m, nil) || Right(m, []api.Acc{}) {
			t.Errorf("11.1: %s: Members(%v) = %v, Right = %v, want false", name, m, Members(m), Right(m, nil))
		}
	}
}

// TestCallsOfMembersThatAreWrong asks of lists that aren't right whatever else is asked: zeros, and ErrForm ahead of all other codes.
func TestCallsOfMembersThatAreWrong(t *testing.T) {
	own := api.Acc{Id: 1, Member: 2, Kind: client}
	for name, m := range wrongMembers() {
		for _, id := range ids() {
			if got := Status(m, id); got != 0 {
				t.Errorf("11.1: %s: Status(%v, %d) = %d, want 0", name, m, id, got)
			}
			if got, code := Enrol(m, id); len(got) != 0 || code != errForm {
				t.Errorf("11.1: %s: Enrol(%v, %d) = %v, %d, want none, %d", name, m, id, got, code, errForm)
			}
			for _, kind := range []int{0, enrol, suspend, reinstate, dflt, allocate} {
				if got, code := Turn(m, id, kind); len(got) != 0 || code != errForm {
					t.Errorf("11.1: %s: Turn(%v, %d, %d) = %v, %d, want none, %d", name, m, id, kind, got, code, errForm)
				}
			}
			if got, code := Port(m, nil, id, id); len(got) != 0 || code != errForm {
				t.Errorf("11.1: %s: Port(%v, none, %d, %d) = %v, %d, want none, %d", name, m, id, id, got, code, errForm)
			}
			x := own
			x.Member = id
			if got, code := Open(m, nil, x); len(got) != 0 || code != errForm {
				t.Errorf("11.1: %s: Open(%v, none, %v) = %v, %d, want none, %d", name, m, x, got, code, errForm)
			}
		}
	}
}

func TestCallsOfMembersThatAreRight(t *testing.T) {
	for _, m := range rightMembers() {
		for _, id := range ids() {
			checkStatus(t, m, id)
			checkEnrol(t, m, id)
			for _, kind := range kinds() {
				checkTurn(t, m, id, kind)
			}
		}
	}
}

// TestAllSmallLists goes over each list of at most three members with ids and statuses at the bounds, one beyond, and within.
func TestAllSmallLists(t *testing.T) {
	var each []api.Member
	for _, id := range []int{0, 1, 2, 12, 13} {
		for _, status := range []int{0, 1, 2, 4, 5} {
			each = append(each, api.Member{Id: id, Status: status})
		}
	}
	right := 0
	check := func(m ...api.Member) {
		want := toldMembers(m)
		if want {
			right++
		}
		if got := Members(m); got != want || Right(m, nil) != want {
			t.Errorf("11.1: Members(%v) = %v, Right = %v, want %v", m, got, Right(m, nil), want)
		}
		for id := range 14 {
			checkStatus(t, m, id)
			checkEnrol(t, m, id)
			checkTurn(t, m, id, suspend)
			checkTurn(t, m, id, dflt)
		}
	}
	for _, x := range each {
		check(x)
		for _, y := range each {
			check(x, y)
			for _, z := range each {
				check(x, y, z)
			}
		}
	}
	// Of three ids and three statuses: one, two, or three members.
	if want := 3*3 + 3*9 + 27; right != want {
		t.Errorf("11.1: %d of the small lists are right, want %d", right, want)
	}
}

func TestStatusByHand(t *testing.T) {
	for id, want := range map[int]int{1: 0, 2: active, 3: 0, 4: suspended, 5: 0, 7: defaulted, 10: 0, 11: closed, 12: 0, 13: 0, 0: 0, -2: 0, 1<<32 + 2: 0} {
		if got := Status(four(), id); got != want {
			t.Errorf("11.2: Status of %d = %d, want %d", id, got, want)
		}
		if got := Status(nil, id); got != 0 {
			t.Errorf("11.2: Status of %d among none = %d, want 0", id, got)
		}
	}
}

func TestEnrolByHand(t *testing.T) {
	two := []api.Member{{Id: 4, Status: closed}, {Id: 9, Status: suspended}}
	for _, c := range []struct {
		name string
		m    []api.Member
		id   int
		want []api.Member
		code api.Errno
	}{
		{"the first of all", nil, 6, []api.Member{{Id: 6, Status: active}}, ok},
		{"the least, the first of all", []api.Member{}, 1, []api.Member{{Id: 1, Status: active}}, ok},
		{"the greatest, the first of all", nil, 12, []api.Member{{Id: 12, Status: active}}, ok},
		{"ahead of all", two, 1, []api.Member{{Id: 1, Status: active}, {Id: 4, Status: closed}, {Id: 9, Status: suspended}}, ok},
		{"just ahead of all", two, 3, []api.Member{{Id: 3, Status: active}, {Id: 4, Status: closed}, {Id: 9, Status: suspended}}, ok},
		{"between two", two, 5, []api.Member{{Id: 4, Status: closed}, {Id: 5, Status: active}, {Id: 9, Status: suspended}}, ok},
		{"just ahead of the second", two, 8, []api.Member{{Id: 4, Status: closed}, {Id: 8, Status: active}, {Id: 9, Status: suspended}}, ok},
		{"just behind all", two, 10, []api.Member{{Id: 4, Status: closed}, {Id: 9, Status: suspended}, {Id: 10, Status: active}}, ok},
		{"behind all", two, 12, []api.Member{{Id: 4, Status: closed}, {Id: 9, Status: suspended}, {Id: 12, Status: active}}, ok},
		{"who is there", two, 4, nil, errThere},
		{"who is there, the last", two, 9, nil, errThere},
		{"0", two, 0, nil, errForm},
		{"below 0", two, -1, nil, errForm},
		{"13", two, 13, nil, errForm},
		{"the least int", two, -1 << 63, nil, errForm},
		{"the greatest int", two, 1<<63 - 1, nil, errForm},
		{"an id in the lower bits alone", two, 1<<32 + 5, nil, errForm},
		{"who is there in the lower bits alone", two, 1<<32 + 4, nil, errForm},
		{"13, of none", nil, 13, nil, errForm},
		{"13, of all there may be", full(), 13, nil, errForm},
		{"0, of all there may be", full(), 0, nil, errForm},
		{"who is there, of all there may be", full(), 12, nil, errThere},
	} {
		got, code := Enrol(c.m, c.id)
		checkList(t, "11.2: Enrol, "+c.name, got, code, c.want, c.code, c.m, c.id)
	}
}

// TestEnrolAll enrols all members, in several orders, until there is no other.
func TestEnrolAll(t *testing.T) {
	var s noise = 11
	for range 40 {
		var m []api.Member
		var enrolled []int
		for len(m) < mostMembers {
			id := 1 + s.upTo(mostMembers-1)
			next, code := Enrol(m, id)
			if slices.Contains(enrolled, id) {
				checkList(t, "11.2: Enrol", next, code, nil, errThere, m, id)
				continue
			}
			enrolled = append(enrolled, id)
			if code != ok || len(next) != len(enrolled) || !Members(next) {
				t.Fatalf("11.2: Enrol(%v, %d) = %v, %d", m, id, next, code)
			}
			for _, there := range enrolled {
				if Status(next, there) != active {
					t.Fatalf("11.2: Status(%v, %d) = %d, want %d", next, there, Status(next, there), active)
				}
			}
			m = next
		}
	}
}

func TestTurnByHand(t *testing.T) {
	for _, c := range []struct {
		name           string
		id, kind, want int
		code           api.Errno
	}{
		{"Active", 2, suspend, suspended, ok},
		{"Active", 2, enrol, 0, errState},
		{"Active", 2, reinstate, 0, errState},
		{"Active", 2, dflt, 0, errState},
		{"Active", 2, allocate, 0, errState},
		{"Suspended", 4, reinstate, active, ok},
		{"Suspended", 4, dflt, defaulted, ok},
		{"Suspended", 4, suspend, 0, errState},
		{"Suspended", 4, enrol, 0, errState},
		{"Suspended", 4, allocate, 0, errState},
		{"Defaulted", 7, allocate, closed, ok},
		{"Defaulted", 7, reinstate, 0, errState},
		{"Defaulted", 7, suspend, 0, errState},
		{"Defaulted", 7, dflt, 0, errState},
		{"Defaulted", 7, enrol, 0, errState},
		{"Closed", 11, enrol, 0, errState},
		{"Closed", 11, suspend, 0, errState},
		{"Closed", 11, reinstate, 0, errState},
		{"Closed", 11, dflt, 0, errState},
		{"Closed", 11, allocate, 0, errState},
		{"of no kind", 2, 0, 0, errState},
		{"of no kind", 4, 23, 0, errState},
		{"of a kind in the lower bits alone", 2, 1<<32 + suspend, 0, errState},
		{"who isn't there, ahead of all", 1, suspend, 0, errNone},
		{"who isn't there, between", 3, suspend, 0, errNone},
		{"who isn't there, behind all", 12, suspend, 0, errNone},
		{"who isn't there, and could be enrolled", 3, enrol, 0, errNone},
		{"who isn't there, of no kind", 3, 0, 0, errNone},
		{"nobody", 0, enrol, 0, errNone},
		{"beyond the bounds", 13, suspend, 0, errNone},
		{"below 0", -2, suspend, 0, errNone},
		{"who is there in the lower bits alone", 1<<32 + 2, suspend, 0, errNone},
	} {
		var want []api.Member
		if c.code == ok {
			want = four()
			want[slices.IndexFunc(want, func(x api.Member) bool { return x.Id == c.id })].Status = c.want
		}
		got, code := Turn(four(), c.id, c.kind)
		checkList(t, "11.2: Turn, "+c.name, got, code, want, c.code, four(), c.id, c.kind)
		none, code := Turn(nil, c.id, c.kind)
		checkList(t, "11.2: Turn of none", none, code, nil, errNone, c.id, c.kind)
	}
}

// TestTurnOfEach turns a member of each status at each place, by each kind, among members of any other status.
func TestTurnOfEach(t *testing.T) {
	for place := range 3 {
		for status := active; status <= closed; status++ {
			for others := active; others <= closed; others++ {
				m := []api.Member{{Id: 1, Status: others}, {Id: 5, Status: others}, {Id: 12, Status: others}}
				m[place].Status = status
				for _, kind := range kinds() {
					for _, x := range m {
						checkTurn(t, m, x.Id, kind)
					}
				}
			}
		}
	}
}
