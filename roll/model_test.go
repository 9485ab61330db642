package roll

import (
	"maps"
	"math"
	"slices"
	"testing"

	"novation/api"
)

// The bounds, statuses, kinds and codes, as numbers, beside the names that api has for them.
const (
	mostMembers = 12
	mostAccs    = 24
	mostLimit   = 1000000000000

	active    = 1
	suspended = 2
	defaulted = 3
	closed    = 4

	house  = 1
	client = 2

	enrol     = 1
	suspend   = 11
	reinstate = 12
	dflt      = 13
	allocate  = 21

	ok       = api.Errno(0)
	errForm  = api.Errno(1)
	errNone  = api.Errno(3)
	errThere = api.Errno(4)
	errSusp  = api.Errno(7)
	errState = api.Errno(8)
)

func TestNumbersAreApis(t *testing.T) {
	got := []int{api.MaxMembers, api.MaxAccs, api.MaxLimit,
		api.Active, api.Suspended, api.Defaulted, api.Closed, api.House, api.Client,
		api.EvEnrol, api.EvSuspend, api.EvReinstate, api.EvDefault, api.EvAllocate,
		int(api.OK), int(api.ErrForm), int(api.ErrNone), int(api.ErrThere), int(api.ErrSusp), int(api.ErrState)}
	want := []int{mostMembers, mostAccs, mostLimit,
		active, suspended, defaulted, closed, house, client,
		enrol, suspend, reinstate, dflt, allocate,
		int(ok), int(errForm), int(errNone), int(errThere), int(errSusp), int(errState)}
	if !slices.Equal(got, want) {
		t.Error("11.1: the numbers are", got, "and not", want)
	}
}

// noise is a plain sequence of numbers, the same in each run.
type noise uint64

// upTo is a number from 0 to n.
func (s *noise) upTo(n int) int {
	*s = *s*6364136223846793005 + 1442695040888963407
	x := uint64(*s)
	x ^= x >> 29
	x *= 0xbf58476d1ce4e5b9
	x ^= x >> 32
	return int(x>>1) % (n + 1)
}

// pick is one of the items.
func pick[T any](s *noise, items []T) T { return items[s.upTo(len(items)-1)] }

// strange are numbers that are far from any id, status, kind or bound, some of which have the lower bits of one.
func strange() []int {
	l := []int{math.MinInt, math.MinInt + 1, math.MinInt32, -mostLimit, math.MaxInt32, math.MaxInt - 1, math.MaxInt}
	for _, high := range []int{1 << 8, 1 << 16, 1 << 32, math.MinInt} {
		for _, x := range []int{1, 2, 4, 12, 24} {
			l = append(l, high+x, x-high)
		}
	}
	return l
}

// ids are all ids from below the members and accounts to beyond them, and strange ones.
func ids() []int {
	var l []int
	for id := -2; id <= mostAccs+3; id++ {
		l = append(l, id)
	}
	return append(l, strange()...)
}

// kinds are all kinds of events from below to beyond, and strange ones.
func kinds() []int {
	return ids()
}

// toldMember is what 11.1 asks of a member for itself.
func toldMember(x api.Member) bool {
	return 1 <= x.Id && x.Id <= mostMembers && 1 <= x.Status && x.Status <= 4
}

// toldMembers is 11.1's Members, each held against all ahead of it.
func toldMembers(m []api.Member) bool {
	for i, x := range m {
		if !toldMember(x) {
			return false
		}
		for _, y := range m[:i] {
			if y.Id >= x.Id {
				return false
			}
		}
	}
	return true
}

// toldAcc is what 11.1 asks of an account for itself.
func toldAcc(x api.Acc) bool {
	return 1 <= x.Id && x.Id <= mostAccs &&
		1 <= x.Member && x.Member <= mostMembers &&
		(x.Kind == house || x.Kind == client) &&
		0 <= x.Limit && x.Limit <= mostLimit
}

// toldAccs is 11.1's Accs, each held against all ahead of it.
func toldAccs(a []api.Acc) bool {
	for i, x := range a {
		if !toldAcc(x) {
			return false
		}
		for _, y := range a[:i] {
			if y.Id >= x.Id || y.Kind == house && x.Kind == house && y.Member == x.Member {
				return false
			}
		}
	}
	return true
}

// toldRight is 11.1's Right.
func toldRight(m []api.Member, a []api.Acc) bool {
	for _, x := range a {
		if !slices.ContainsFunc(m, func(y api.Member) bool { return y.Id == x.Member }) {
			return false
		}
	}
	return toldMembers(m) && toldAccs(a)
}

// statuses are the statuses of right members by their ids; of members that aren't right nobody is told.
func statuses(m []api.Member) map[int]int {
	of := map[int]int{}
	if toldMembers(m) {
		for _, x := range m {
			of[x.Id] = x.Status
		}
	}
	return of
}

// membersOf is the members of these statuses.
func membersOf(statuses map[int]int) []api.Member {
	var m []api.Member
	for _, id := range slices.Sorted(maps.Keys(statuses)) {
		m = append(m, api.Member{Id: id, Status: statuses[id]})
	}
	return m
}

// accounts are right accounts by their ids; of accounts that aren't right none is told.
func accounts(a []api.Acc) map[int]api.Acc {
	of := map[int]api.Acc{}
	if toldAccs(a) {
		for _, x := range a {
			of[x.Id] = x
		}
	}
	return of
}

// accsOf is these accounts in a row.
func accsOf(accounts map[int]api.Acc) []api.Acc {
	var a []api.Acc
	for _, id := range slices.Sorted(maps.Keys(accounts)) {
		a = append(a, accounts[id])
	}
	return a
}

// wantEnrol is 11.2's Enrol.
func wantEnrol(m []api.Member, id int) ([]api.Member, api.Errno) {
	of := statuses(m)
	if !toldMembers(m) || id < 1 || id > mostMembers {
		return nil, errForm
	}
	if of[id] != 0 {
		return nil, errThere
	}
	of[id] = active
	return membersOf(of), ok
}

// wantTurn is 11.2's Turn, by a table of what 10.1 says.
func wantTurn(m []api.Member, id, kind int) ([]api.Member, api.Errno) {
	becomes := map[[2]int]int{
		{active, suspend}:      suspended,
		{suspended, reinstate}: active,
		{suspended, dflt}:      defaulted,
		{defaulted, allocate}:  closed,
	}
	of := statuses(m)
	if !toldMembers(m) {
		return nil, errForm
	}
	if of[id] == 0 {
		return nil, errNone
	}
	status := becomes[[2]int{of[id], kind}]
	if status == 0 {
		return nil, errState
	}
	of[id] = status
	return membersOf(of), ok
}

// wantHouse is 11.2's House.
func wantHouse(a []api.Acc, member int) int {
	for id, x := range accounts(a) {
		if x.Kind == house && x.Member == member {
			return id
		}
	}
	return 0
}

// wantOwned is 11.2's Owned.
func wantOwned(a []api.Acc, member int) []int {
	var owned []int
	for id, x := range accounts(a) {
		if x.Member == member {
			owned = append(owned, id)
		}
	}
	slices.Sort(owned)
	return owned
}

// wantOpen is 11.3's Open.
func wantOpen(m []api.Member, a []api.Acc, x api.Acc) ([]api.Acc, api.Errno) {
	if !toldRight(m, a) || !toldAcc(x) {
		return nil, errForm
	}
	switch statuses(m)[x.Member] {
	case 0:
		return nil, errNone
	case suspended, defaulted, closed:
		return nil, errSusp
	}
	of := accounts(a)
	if _, there := of[x.Id]; there {
		return nil, errThere
	}
	if x.Kind == house && wantHouse(a, x.Member) != 0 {
		return nil, errThere
	}
	of[x.Id] = x
	return accsOf(of), ok
}

// wantLimit is 11.3's Limit.
func wantLimit(a []api.Acc, id int, q int64) ([]api.Acc, api.Errno) {
	if !toldAccs(a) || q < 0 || q > mostLimit {
		return nil, errForm
	}
	of := accounts(a)
	x, there := of[id]
	if !there {
		return nil, errNone
	}
	x.Limit = q
	of[id] = x
	return accsOf(of), ok
}

// wantPort is 11.3's Port.
func wantPort(m []api.Member, a []api.Acc, id, to int) ([]api.Acc, api.Errno) {
	if !toldRight(m, a) {
		return nil, errForm
	}
	of := accounts(a)
	x, there := of[id]
	status := statuses(m)[to]
	if !there || status == 0 {
		return nil, errNone
	}
	if x.Kind == house {
		return nil, errState
	}
	if status != active {
		return nil, errSusp
	}
	x.Member = to
	of[id] = x
	return accsOf(of), ok
}

// checkList holds a list and a code that were answered against those that should be: beside a code that is not OK the list is empty.
func checkList[T comparable](t *testing.T, promise string, got []T, code api.Errno, want []T, wantCode api.Errno, asked ...any) {
	t.Helper()
	if !slices.Equal(got, want) || code != wantCode {
		t.Errorf("%s of %v = %v, %d, want %v, %d", promise, asked, got, code, want, wantCode)
	}
}

// checkStatus holds Status against the model.
func checkStatus(t *testing.T, m []api.Member, id int) {
	t.Helper()
	if got, want := Status(m, id), statuses(m)[id]; got != want {
		t.Errorf("11.2: Status(%v, %d) = %d, want %d", m, id, got, want)
	}
}

// checkEnrol holds Enrol against the model.
func checkEnrol(t *testing.T, m []api.Member, id int) {
	t.Helper()
	got, code := Enrol(m, id)
	want, wantCode := wantEnrol(m, id)
	checkList(t, "11.2: Enrol", got, code, want, wantCode, m, id)
	checkComes(t, "Enrol", code, Members(got), m, id)
}

// checkTurn holds Turn against the model.
func checkTurn(t *testing.T, m []api.Member, id, kind int) {
	t.Helper()
	got, code := Turn(m, id, kind)
	want, wantCode := wantTurn(m, id, kind)
	checkList(t, "11.2: Turn", got, code, want, wantCode, m, id, kind)
	checkComes(t, "Turn", code, Members(got), m, id, kind)
}

// checkFind holds Find against the model.
func checkFind(t *testing.T, a []api.Acc, id int) {
	t.Helper()
	got, found := Find(a, id)
	want, there := accounts(a)[id]
	if got != want || found != there {
		t.Errorf("11.2: Find(%v, %d) = %v, %v, want %v, %v", a, id, got, found, want, there)
	}
}

// checkHouse holds House against the model.
func checkHouse(t *testing.T, a []api.Acc, member int) {
	t.Helper()
	if got, want := House(a, member), wantHouse(a, member); got != want {
		t.Errorf("11.2: House(%v, %d) = %d, want %d", a, member, got, want)
	}
}

// checkOwned holds Owned against the model.
func checkOwned(t *testing.T, a []api.Acc, member int) {
	t.Helper()
	if got, want := Owned(a, member), wantOwned(a, member); !slices.Equal(got, want) {
		t.Errorf("11.2: Owned(%v, %d) = %v, want %v", a, member, got, want)
	}
}

// checkOpen holds Open against the model.
func checkOpen(t *testing.T, m []api.Member, a []api.Acc, x api.Acc) {
	t.Helper()
	got, code := Open(m, a, x)
	want, wantCode := wantOpen(m, a, x)
	checkList(t, "11.3: Open", got, code, want, wantCode, m, a, x)
	checkComes(t, "Open", code, Right(m, got), m, a, x)
}

// checkLimit holds Limit against the model.
func checkLimit(t *testing.T, a []api.Acc, id int, q int64) {
	t.Helper()
	got, code := Limit(a, id, q)
	want, wantCode := wantLimit(a, id, q)
	checkList(t, "11.3: Limit", got, code, want, wantCode, a, id, q)
	checkComes(t, "Limit", code, Accs(got), a, id, q)
}

// checkPort holds Port against the model.
func checkPort(t *testing.T, m []api.Member, a []api.Acc, id, to int) {
	t.Helper()
	got, code := Port(m, a, id, to)
	want, wantCode := wantPort(m, a, id, to)
	checkList(t, "11.3: Port", got, code, want, wantCode, m, a, id, to)
	checkComes(t, "Port", code, Right(m, got), m, a, id, to)
}

// checkComes tells when what came out beside OK isn't right.
func checkComes(t *testing.T, call string, code api.Errno, right bool, asked ...any) {
	t.Helper()
	if code == ok && !right {
		t.Errorf("11.4: what comes out of %s of %v isn't right", call, asked)
	}
}
