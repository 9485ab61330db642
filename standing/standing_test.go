package standing

import (
	"math"
	"slices"
	"testing"

	"novation/api"
)

// The statuses and the kinds that turn them, as numbers, beside the names that api has for them.
const (
	nothing   = 0
	active    = 1
	suspended = 2
	defaulted = 3
	closed    = 4

	enrol     = 1
	suspend   = 11
	reinstate = 12
	dflt      = 13
	allocate  = 21
)

// turned is 10.1's table: by which kind which status becomes which.
func turned() map[[2]int]int {
	return map[[2]int]int{
		{nothing, enrol}:       active,
		{active, suspend}:      suspended,
		{suspended, reinstate}: active,
		{suspended, dflt}:      defaulted,
		{defaulted, allocate}:  closed,
	}
}

// walked is 10.1's Path by the table.
func walked(table map[[2]int]int, kinds []int) (int, bool) {
	status := nothing
	for _, kind := range kinds {
		next, there := table[[2]int{status, kind}]
		if !there {
			return 0, false
		}
		status = next
	}
	return status, true
}

// numbers are all from below the statuses and kinds to beyond them, those at the ends of int, and those whose lower bits alone are a status's or a kind's.
func numbers() []int {
	l := []int{math.MinInt, math.MinInt + 1, math.MinInt32, math.MaxInt32, math.MaxInt - 1, math.MaxInt}
	for x := -40; x <= 40; x++ {
		l = append(l, x)
	}
	for _, high := range []int{1 << 8, 1 << 16, 1 << 32, math.MinInt} {
		for x := range 24 {
			l = append(l, high+x, -high+x)
		}
	}
	slices.Sort(l)
	return slices.Compact(l)
}

// lead is a way to each status at which one can stand, without a turn back.
func lead() map[int][]int {
	return map[int][]int{
		nothing:   {},
		active:    {enrol},
		suspended: {enrol, suspend},
		defaulted: {enrol, suspend, dflt},
		closed:    {enrol, suspend, dflt, allocate},
	}
}

// rows hands on each row of these kinds that has at most this length. The row is the caller's only until it answers.
func rows(kinds []int, most int, each func([]int)) {
	var row []int
	var grow func()
	grow = func() {
		each(row)
		if len(row) == most {
			return
		}
		for _, kind := range kinds {
			row = append(row, kind)
			grow()
			row = row[:len(row)-1]
		}
	}
	grow()
}

// manyRows hands on short rows of all kinds, with some that are none, and longer ones of the kinds that turn a status and two others.
func manyRows(each func([]int)) {
	var all []int
	for kind := -1; kind <= api.EvPay+1; kind++ {
		all = append(all, kind)
	}
	rows(all, 4, each)
	rows([]int{enrol, suspend, reinstate, dflt, allocate, api.EvOpen, 0}, 7, each)
	rows([]int{enrol, suspend, reinstate, dflt, allocate}, 8, each)
}

// checkPath holds Path of a row against the table.
func checkPath(t *testing.T, kinds []int) {
	t.Helper()
	want, wantOk := walked(turned(), kinds)
	if got, ok := Path(kinds); got != want || ok != wantOk {
		t.Errorf("10.1: Path(%v) = %d, %v, want %d, %v", kinds, got, ok, want, wantOk)
	}
}

func TestNumbersAreApis(t *testing.T) {
	got := []int{api.Active, api.Suspended, api.Defaulted, api.Closed, api.EvEnrol, api.EvSuspend, api.EvReinstate, api.EvDefault, api.EvAllocate}
	want := []int{active, suspended, defaulted, closed, enrol, suspend, reinstate, dflt, allocate}
	if !slices.Equal(got, want) {
		t.Error("10.1: the statuses and kinds are", got, "and not", want)
	}
}

func TestNext(t *testing.T) {
	table := turned()
	for _, status := range numbers() {
		for _, kind := range numbers() {
			want, wantOk := table[[2]int{status, kind}]
			for range 2 {
				if got, ok := Next(status, kind); got != want || ok != wantOk {
					t.Errorf("10.1: Next(%d, %d) = %d, %v, want %d, %v", status, kind, got, ok, want, wantOk)
				}
			}
		}
	}
}

func TestNextByHand(t *testing.T) {
	for _, c := range []struct {
		status, kind, want int
		ok                 bool
	}{
		{0, api.EvEnrol, api.Active, true},
		{api.Active, api.EvSuspend, api.Suspended, true},
		{api.Suspended, api.EvReinstate, api.Active, true},
		{api.Suspended, api.EvDefault, api.Defaulted, true},
		{api.Defaulted, api.EvAllocate, api.Closed, true},
		{0, 0, 0, false},
		{0, api.EvSuspend, 0, false},
		{0, api.EvReinstate, 0, false},
		{api.Active, api.EvEnrol, 0, false},
		{api.Active, api.EvReinstate, 0, false},
		{api.Active, api.EvDefault, 0, false},
		{api.Active, api.EvAllocate, 0, false},
		{api.Suspended, api.EvEnrol, 0, false},
		{api.Suspended, api.EvSuspend, 0, false},
		{api.Suspended, api.EvAllocate, 0, false},
		{api.Defaulted, api.EvReinstate, 0, false},
		{api.Defaulted, api.EvDefault, 0, false},
		{api.Closed, api.EvEnrol, 0, false},
		{api.Closed, api.EvReinstate, 0, false},
		{api.Closed, api.EvAllocate, 0, false},
		{-1, api.EvEnrol, 0, false},
		{5, api.EvEnrol, 0, false},
	} {
		if got, ok := Next(c.status, c.kind); got != c.want || ok != c.ok {
			t.Errorf("10.1: Next(%d, %d) = %d, %v, want %d, %v", c.status, c.kind, got, ok, c.want, c.ok)
		}
	}
}

func TestPathOfNone(t *testing.T) {
	for _, kinds := range [][]int{nil, {}, make([]int, 0, 8), []int{enrol, suspend}[:0]} {
		if got, ok := Path(kinds); got != 0 || !ok {
			t.Errorf("10.1: Path of none = %d, %v, want 0, true", got, ok)
		}
	}
}

func TestPathOfEachWay(t *testing.T) {
	for want, kinds := range lead() {
		if got, ok := Path(kinds); got != want || !ok {
			t.Errorf("10.1: Path(%v) = %d, %v, want %d, true", kinds, got, ok, want)
		}
		if want < suspended {
			continue
		}
		// The same with a turn back on the way.
		back := slices.Concat([]int{enrol, suspend, reinstate}, kinds[1:])
		if got, ok := Path(back); got != want || !ok {
			t.Errorf("10.1: Path(%v) = %d, %v, want %d, true", back, got, ok, want)
		}
	}
	if got, ok := Path([]int{enrol, suspend, reinstate}); got != active || !ok {
		t.Errorf("10.1: Path of who is reinstated = %d, %v, want %d, true", got, ok, active)
	}
}

func TestPathExample(t *testing.T) {
	if got, ok := Path([]int{api.EvEnrol, api.EvSuspend, api.EvDefault}); got != api.Defaulted || !ok {
		t.Errorf("10.1: the example = %d, %v, want %d, true", got, ok, api.Defaulted)
	}
}

// TestPathWithAWrongKind lays a kind that turns nothing, at each place, into a row that leads on, also beside one that would have led on.
func TestPathWithAWrongKind(t *testing.T) {
	way := []int{enrol, suspend, reinstate, suspend, dflt, allocate}
	table := turned()
	for at := range len(way) + 1 {
		status, _ := walked(table, way[:at])
		for _, kind := range numbers() {
			if _, leads := table[[2]int{status, kind}]; leads {
				continue
			}
			laid := slices.Insert(slices.Clone(way), at, kind)
			if got, ok := Path(laid); got != 0 || ok {
				t.Errorf("10.1: Path(%v) = %d, %v, want 0, false", laid, got, ok)
			}
			if at == len(way) {
				continue
			}
			put := slices.Clone(way)
			put[at] = kind
			if got, ok := Path(put); got != 0 || ok {
				t.Errorf("10.1: Path(%v) = %d, %v, want 0, false", put, got, ok)
			}
		}
	}
	for _, kinds := range [][]int{{suspend}, {0}, {-1}, {enrol, enrol}, {enrol, dflt, suspend}, {0, enrol}, {enrol, 0, suspend}, {enrol, suspend, 0}} {
		if got, ok := Path(kinds); got != 0 || ok {
			t.Errorf("10.1: Path(%v) = %d, %v, want 0, false", kinds, got, ok)
		}
	}
}

func TestPathOfLongRows(t *testing.T) {
	long := []int{enrol}
	for range 100000 {
		long = append(long, suspend, reinstate)
	}
	checks := []struct {
		name  string
		kinds []int
		want  int
		ok    bool
	}{
		{"there and back", long, active, true},
		{"there and back, and closed", append(slices.Clone(long), suspend, dflt, allocate), closed, true},
		{"a wrong first", slices.Insert(slices.Clone(long), 0, suspend), 0, false},
		{"a wrong middle", slices.Insert(slices.Clone(long), len(long)/2, 0), 0, false},
		{"a wrong last", append(slices.Clone(long), reinstate), 0, false},
	}
	for _, c := range checks {
		if got, ok := Path(c.kinds); got != c.want || ok != c.ok {
			t.Errorf("10.1: Path of a long row, %s = %d, %v, want %d, %v", c.name, got, ok, c.want, c.ok)
		}
	}
}

// TestPathIsNextByEach goes over all rows: by the table, and by Next of what the row but its last comes to.
func TestPathIsNextByEach(t *testing.T) {
	table := turned()
	manyRows(func(kinds []int) {
		got, ok := Path(kinds)
		if want, wantOk := walked(table, kinds); got != want || ok != wantOk {
			t.Fatalf("10.1: Path(%v) = %d, %v, want %d, %v", kinds, got, ok, want, wantOk)
		}
		if len(kinds) == 0 {
			return
		}
		want, wantOk := 0, false
		last := len(kinds) - 1
		if before, leads := Path(kinds[:last]); leads {
			want, wantOk = Next(before, kinds[last])
		}
		if got != want || ok != wantOk {
			t.Fatalf("10.1: Path(%v) = %d, %v, but Next comes to %d, %v", kinds, got, ok, want, wantOk)
		}
	})
}

func TestLive(t *testing.T) {
	for _, status := range numbers() {
		if got, want := Live(status), status == active || status == suspended; got != want {
			t.Errorf("10.2: Live(%d) = %v, want %v", status, got, want)
		}
	}
}

func TestName(t *testing.T) {
	names := map[int]string{active: "active", suspended: "suspended", defaulted: "defaulted", closed: "closed"}
	for _, status := range numbers() {
		if got, want := Name(status), names[status]; got != want {
			t.Errorf("10.2: Name(%d) = %q, want %q", status, got, want)
		}
	}
}

func TestClosedStaysClosed(t *testing.T) {
	for _, kind := range numbers() {
		if got, ok := Next(api.Closed, kind); got != 0 || ok {
			t.Errorf("10.3: Next of who is closed by %d = %d, %v, want 0, false", kind, got, ok)
		}
		if got, ok := Path(append(lead()[closed], kind)); got != 0 || ok {
			t.Errorf("10.3: Path of who is closed, and %d = %d, %v, want 0, false", kind, got, ok)
		}
	}
}

// TestWhenceStatusesCome asks of which status alone each of the last two comes.
func TestWhenceStatusesCome(t *testing.T) {
	of := map[int]int{api.Closed: api.Defaulted, api.Defaulted: api.Suspended}
	for _, status := range numbers() {
		for _, kind := range numbers() {
			got, ok := Next(status, kind)
			if whence, there := of[got]; ok && there && status != whence {
				t.Errorf("10.3: Next(%d, %d) = %d, which comes of %d alone", status, kind, got, whence)
			}
		}
	}
}

// TestWhenceStatusesComeInRows asks the same of all rows: what they were ahead of their last, and that nothing is behind Closed.
func TestWhenceStatusesComeInRows(t *testing.T) {
	came := map[int]int{}
	manyRows(func(kinds []int) {
		got, ok := Path(kinds)
		if !ok || len(kinds) == 0 {
			return
		}
		came[got]++
		before, leads := Path(kinds[:len(kinds)-1])
		switch {
		case !leads:
			t.Fatalf("10.3: Path(%v) leads on, and its beginning does not", kinds)
		case before == api.Closed:
			t.Fatalf("10.3: Path(%v) = %d, of who was closed", kinds, got)
		case got == api.Closed && before != api.Defaulted, got == api.Defaulted && before != api.Suspended:
			t.Fatalf("10.3: Path(%v) = %d, of who was %d", kinds, got, before)
		}
	})
	for _, status := range []int{active, suspended, defaulted, closed} {
		if came[status] == 0 {
			t.Errorf("10.3: no row comes to %d", status)
		}
	}
}

// TestPathLeavesItsKinds holds a row, and the room behind it, against what they were.
func TestPathLeavesItsKinds(t *testing.T) {
	for _, kinds := range [][]int{
		{},
		{enrol, suspend, dflt, allocate},
		{enrol, suspend, reinstate, suspend},
		{suspend, enrol},
		{enrol, 0, suspend},
		{-1, 40, math.MinInt, math.MaxInt},
	} {
		room := append(slices.Clone(kinds), 77, 78, 79)
		before := slices.Clone(room)
		row := room[:len(kinds)]
		checkPath(t, row)
		if !slices.Equal(room, before) {
			t.Errorf("10.1: Path of %v left %v, R4", before, room)
		}
		checkPath(t, row)
	}
}

// TestPathKeepsNothing turns a row between two calls: each is answered by what it is then.
func TestPathKeepsNothing(t *testing.T) {
	row := []int{enrol, suspend, dflt}
	checkPath(t, row)
	row[2] = reinstate
	checkPath(t, row)
	row[0] = suspend
	checkPath(t, row)
	row[0], row[2] = enrol, dflt
	checkPath(t, row)
}
