package cells

import (
	"math"
	"math/rand"
	"runtime"
	"slices"
	"sync"
	"sync/atomic"
	"testing"

	"waymaster/api"
)

// wrongSizes, wrongActors are no numbers of cells, and no actors; of some the lower bits alone would be.
var (
	wrongSizes  = []int{math.MinInt, math.MinInt32, -1 << 32, -1001, -1000, -2, -1, 1001, 1002, 1024, 65536, 1 << 31, 1 << 32, 1<<32 + 1, math.MaxInt}
	wrongActors = []int{math.MinInt, math.MinInt + 1, math.MinInt32, -1 << 32, -64, -2, -1, 64, 65, 128, 255, 256, 1 << 32, 1<<32 + 3, math.MaxInt - 1, math.MaxInt}
)

// someSizes are right numbers of cells: the least, the greatest, and some between.
var someSizes = []int{0, 1, 2, 63, 64, 65, 999, 1000}

// values are numbers of 64 bits: the least, the greatest, and some between.
var values = []int64{math.MinInt64, math.MinInt64 + 1, math.MinInt32 - 1, math.MinInt32, -65536, -7, -1, 0, 1, 2, 5, 63, 1000, math.MaxInt32, math.MaxInt32 + 1, 1 << 32, 1<<32 + 1, math.MaxInt64 - 1, math.MaxInt64}

// beyond are no indexes of something of which there are so many.
func beyond(size int) []int {
	return []int{math.MinInt, math.MinInt32, -1 << 32, -1000, -2, -1, size, size + 1, size + 64, 1000, 1001, 1 << 32, 1<<32 + size, math.MaxInt - 1, math.MaxInt}
}

// must are new cells.
func must(t *testing.T, cells, locks, counts int) *Cells {
	t.Helper()
	c, code := New(cells, locks, counts)
	if c == nil || code != api.OK {
		t.Fatalf("New(%d, %d, %d) = %v, %d", cells, locks, counts, c, code)
	}
	return c
}

// ok checks that nothing was refused.
func ok(t *testing.T, codes ...api.Errno) {
	t.Helper()
	answered(t, api.OK, codes...)
}

// answered checks that all were answered with one code.
func answered(t *testing.T, want api.Errno, codes ...api.Errno) {
	t.Helper()
	for i, code := range codes {
		if code != want {
			t.Fatalf("call %d is answered with %d, want %d", i, code, want)
		}
	}
}

// state is what cells are: all values, all holders, all counts.
type state struct {
	cells  []int64
	locks  []int
	counts []int64
}

// fresh is the state of new cells.
func fresh(cells, locks, counts int) state {
	return state{make([]int64, cells), slices.Repeat([]int{-1}, locks), make([]int64, counts)}
}

// is checks that cells are in a state, by all that can be asked, and that there are no others.
func is(t *testing.T, c *Cells, want state) {
	t.Helper()
	for i, w := range want.cells {
		if v, code := c.Load(i); v != w || code != api.OK {
			t.Fatalf("Load(%d) = %d, %d, want %d", i, v, code, w)
		}
	}
	for i, w := range want.locks {
		if actor := c.Holder(i); actor != w {
			t.Fatalf("Holder(%d) = %d, want %d", i, actor, w)
		}
	}
	for i, w := range want.counts {
		isAt(t, c, i, w)
	}
	if _, code := c.Load(len(want.cells)); code != api.ErrArg {
		t.Fatalf("Load behind the last cell is answered with %d", code)
	}
	if actor := c.Holder(len(want.locks)); actor != -1 {
		t.Fatalf("Holder behind the last lock is %d", actor)
	}
	if _, code := c.Begin(len(want.counts)); code != api.ErrArg {
		t.Fatalf("Begin behind the last count is answered with %d", code)
	}
}

// isAt checks that a count is a number.
func isAt(t *testing.T, c *Cells, i int, want int64) {
	t.Helper()
	if same, code := c.End(i, want); !same || code != api.OK {
		t.Fatalf("End(%d, %d) = %v, %d", i, want, same, code)
	}
	for _, other := range []int64{want - 2, want - 1, want + 1, want + 2, -want - 1} {
		if same, code := c.End(i, other); same || code != api.OK {
			t.Fatalf("End(%d, %d) = %v, %d at %d", i, other, same, code, want)
		}
	}
	at, code := c.Begin(i)
	if want%2 == 0 && (at != want || code != api.OK) {
		t.Fatalf("Begin(%d) = %d, %d, want %d", i, at, code, want)
	}
	if want%2 == 1 && (at != 0 || code != api.ErrSeq) {
		t.Fatalf("Begin(%d) = %d, %d at %d", i, at, code, want)
	}
}

// P11.1: New makes as many cells of 0, free locks and counts of 0 as it is asked for, each alone and all together.
func TestNew(t *testing.T) {
	for _, n := range someSizes {
		is(t, must(t, n, 0, 0), fresh(n, 0, 0))
		is(t, must(t, 0, n, 0), fresh(0, n, 0))
		is(t, must(t, 0, 0, n), fresh(0, 0, n))
		is(t, must(t, n, n, n), fresh(n, n, n))
		is(t, must(t, n, 1000, 1), fresh(n, 1000, 1))
		is(t, must(t, 1, n, 1000), fresh(1, n, 1000))
		is(t, must(t, 1000, 1, n), fresh(1000, 1, n))
	}
}

// P11.1: New refuses whatever is not in 0..1000, wherever it stands, whatever the others are.
func TestNewWrong(t *testing.T) {
	refused := func(cells, locks, counts int) {
		t.Helper()
		if c, code := New(cells, locks, counts); c != nil || code != api.ErrArg {
			t.Errorf("New(%d, %d, %d) = %v, %d", cells, locks, counts, c, code)
		}
	}
	for _, wrong := range wrongSizes {
		for _, a := range someSizes {
			for _, b := range someSizes {
				refused(wrong, a, b)
				refused(a, wrong, b)
				refused(a, b, wrong)
			}
		}
		for _, other := range wrongSizes {
			refused(wrong, other, 1)
			refused(wrong, 1, other)
			refused(1, wrong, other)
			refused(wrong, other, wrong)
		}
	}
}

// P11.1: two Cells have nothing in common, nor have cells, locks and counts of one index.
func TestApart(t *testing.T) {
	c, d := must(t, 2, 2, 2), must(t, 2, 2, 2)
	ok(t, c.Store(1, 5), c.Lock(1, 3), c.Change(1))
	is(t, c, state{[]int64{0, 5}, []int{-1, 3}, []int64{0, 1}})
	is(t, d, fresh(2, 2, 2))
	ok(t, d.Store(0, 7), d.Lock(1, 4), d.Change(1), d.Settle(1))
	is(t, c, state{[]int64{0, 5}, []int{-1, 3}, []int64{0, 1}})
	is(t, d, state{[]int64{7, 0}, []int{-1, 4}, []int64{0, 2}})

	e := must(t, 1, 1, 1)
	ok(t, e.Store(0, 64))
	is(t, e, state{[]int64{64}, []int{-1}, []int64{0}})
	ok(t, e.Lock(0, 9))
	is(t, e, state{[]int64{64}, []int{9}, []int64{0}})
	ok(t, e.Change(0))
	is(t, e, state{[]int64{64}, []int{9}, []int64{1}})
	ok(t, e.Unlock(0, 9), e.Settle(0), e.Store(0, -1))
	is(t, e, state{[]int64{-1}, []int{-1}, []int64{2}})
}

// P11.1: the document's example.
func TestAddExample(t *testing.T) {
	c := must(t, 2, 0, 0)
	ok(t, c.Store(1, 5))
	if v, code := c.Add(1, -7); v != -2 || code != api.OK {
		t.Errorf("Add(1, -7) = %d, %d", v, code)
	}
	is(t, c, state{cells: []int64{0, -2}})
}

// P11.1: every value is stored, loaded, added to with wraparound both ways, and swapped where it is the old one, in the first, a middle and the last cell, and no other cell changes.
func TestValues(t *testing.T) {
	const size = 1000
	for _, i := range []int{0, 1, 500, 998, 999} {
		c := must(t, size, 0, 0)
		want := fresh(size, 0, 0)
		for j := range want.cells {
			want.cells[j] = int64(j)*1000003 - 500
			ok(t, c.Store(j, want.cells[j]))
		}
		for _, v := range values {
			ok(t, c.Store(i, v))
			want.cells[i] = v
			is(t, c, want)
			for _, by := range values {
				ok(t, c.Store(i, v))
				if got, code := c.Add(i, by); got != v+by || code != api.OK {
					t.Fatalf("Add of %d to %d = %d, %d", by, v, got, code)
				}
				if got, code := c.Load(i); got != v+by || code != api.OK {
					t.Fatalf("Load behind Add of %d to %d = %d, %d", by, v, got, code)
				}
				ok(t, c.Store(i, v))
				swapsAll(t, c, i, v, by)
			}
			ok(t, c.Store(i, v))
			is(t, c, want)
		}
	}
}

// swapsAll checks Swap of a cell that has a value: only the old value that is there lets it be set.
func swapsAll(t *testing.T, c *Cells, i int, v, to int64) {
	t.Helper()
	for _, old := range []int64{v + 1, v - 1, ^v, v + 1<<32, v - math.MinInt64} {
		swaps(t, c, i, old, to, false)
		loads(t, c, i, v)
	}
	swaps(t, c, i, v, to, true)
	loads(t, c, i, to)
}

// swaps checks what Swap reports.
func swaps(t *testing.T, c *Cells, i int, old, to int64, want bool) {
	t.Helper()
	if did, code := c.Swap(i, old, to); did != want || code != api.OK {
		t.Fatalf("Swap(%d, %d, %d) = %v, %d", i, old, to, did, code)
	}
}

// loads checks the value of a cell.
func loads(t *testing.T, c *Cells, i int, want int64) {
	t.Helper()
	if v, code := c.Load(i); v != want || code != api.OK {
		t.Fatalf("Load(%d) = %d, %d, want %d", i, v, code, want)
	}
}

// P11.1: adding wraps around, as written out.
func TestAddWraps(t *testing.T) {
	for _, w := range []struct{ v, by, want int64 }{
		{math.MaxInt64, 1, math.MinInt64},
		{math.MinInt64, -1, math.MaxInt64},
		{math.MaxInt64, math.MaxInt64, -2},
		{math.MinInt64, math.MinInt64, 0},
		{math.MaxInt64, math.MinInt64, -1},
		{math.MinInt64, math.MaxInt64, -1},
		{0, math.MinInt64, math.MinInt64},
		{-1, math.MinInt64, math.MaxInt64},
		{1, math.MaxInt64, math.MinInt64},
		{0, 0, 0},
		{math.MaxInt32, 1, 1 << 31},
	} {
		c := must(t, 1, 0, 0)
		ok(t, c.Store(0, w.v))
		if got, code := c.Add(0, w.by); got != w.want || code != api.OK {
			t.Errorf("Add of %d to %d = %d, %d, want %d", w.by, w.v, got, code, w.want)
		}
		loads(t, c, 0, w.want)
	}
}

// P11.1: a Swap that finds another number tells so, changes nothing, and is no error; one to the same number is one that did.
func TestSwap(t *testing.T) {
	c := must(t, 2, 0, 0)
	swaps(t, c, 0, 1, 2, false)
	swaps(t, c, 0, 0, 2, true)
	swaps(t, c, 0, 0, 3, false)
	swaps(t, c, 1, 2, 3, false)
	swaps(t, c, 0, 2, 2, true)
	swaps(t, c, 0, 2, 2, true)
	swaps(t, c, 0, 3, 3, false)
	is(t, c, state{cells: []int64{2, 0}})
}

// P11.2: the document's examples.
func TestLockExamples(t *testing.T) {
	c := must(t, 0, 1, 0)
	ok(t, c.Lock(0, 3))
	answered(t, api.ErrLock, c.Lock(0, 3), c.Unlock(0, 4), c.Lock(0, 4), c.Unlock(0, 4))
	is(t, c, state{locks: []int{3}})
	ok(t, c.Unlock(0, 3))
	is(t, c, state{locks: []int{-1}})
}

// P11.2: every actor may hold a lock, no other one may acquire or release it meanwhile, nor itself acquire it again; Holder tells so before, meanwhile and behind.
func TestActors(t *testing.T) {
	c := must(t, 0, 3, 0)
	for actor := range 64 {
		is(t, c, fresh(0, 3, 0))
		ok(t, c.Lock(1, actor))
		for other := range 64 {
			answered(t, api.ErrLock, c.Lock(1, other))
			if other != actor {
				answered(t, api.ErrLock, c.Unlock(1, other))
			}
			answered(t, api.ErrLock, c.Unlock(0, other), c.Unlock(2, other))
		}
		is(t, c, state{locks: []int{-1, actor, -1}})
		ok(t, c.Unlock(1, actor))
		for other := range 64 {
			answered(t, api.ErrLock, c.Unlock(1, other))
		}
		is(t, c, fresh(0, 3, 0))
		ok(t, c.Lock(1, actor), c.Unlock(1, actor), c.Lock(1, 63-actor), c.Unlock(1, 63-actor))
	}
	is(t, c, fresh(0, 3, 0))
}

// P11.2: one actor may hold two locks, and others others; each is released for itself.
func TestTwoLocks(t *testing.T) {
	c := must(t, 0, 4, 0)
	ok(t, c.Lock(0, 63), c.Lock(3, 63), c.Lock(1, 0))
	is(t, c, state{locks: []int{63, 0, -1, 63}})
	answered(t, api.ErrLock, c.Lock(0, 0), c.Lock(1, 63), c.Lock(3, 63), c.Unlock(1, 63), c.Unlock(2, 63))
	ok(t, c.Unlock(0, 63))
	is(t, c, state{locks: []int{-1, 0, -1, 63}})
	answered(t, api.ErrLock, c.Unlock(0, 63))
	ok(t, c.Lock(0, 0), c.Unlock(3, 63), c.Unlock(1, 0))
	is(t, c, state{locks: []int{0, -1, -1, -1}})
}

// P11.2: the first, the last and those between, of as many locks as there may be, have holders of their own.
func TestManyLocks(t *testing.T) {
	c := must(t, 0, 1000, 0)
	want := fresh(0, 1000, 0)
	for _, i := range []int{999, 0, 500, 1, 998, 64} {
		want.locks[i] = i % 64
		ok(t, c.Lock(i, i%64))
		is(t, c, want)
	}
	for i := range want.locks {
		code := c.Lock(i, (i+1)%64)
		if want.locks[i] < 0 {
			want.locks[i] = (i + 1) % 64
			ok(t, code)
		} else {
			answered(t, api.ErrLock, code)
		}
	}
	is(t, c, want)
	for i := 0; i < 1000; i += 3 {
		ok(t, c.Unlock(i, want.locks[i]))
		want.locks[i] = -1
	}
	is(t, c, want)
}

// P11.2: Holder of no lock is -1, whatever is held, and whether there are locks or not.
func TestHolderOfNone(t *testing.T) {
	for _, size := range []int{0, 1, 5, 1000} {
		c := must(t, 3, size, 3)
		for held := range 2 {
			for _, i := range beyond(size) {
				if actor := c.Holder(i); actor != -1 && (i < 0 || i >= size) {
					t.Errorf("Holder(%d) = %d of %d locks", i, actor, size)
				}
			}
			for i := range size * (1 - held) {
				ok(t, c.Lock(i, i%64))
			}
		}
	}
}

// P11.3: the document's example.
func TestSeqExample(t *testing.T) {
	c := must(t, 0, 0, 1)
	at, code := c.Begin(0)
	if at != 0 || code != api.OK {
		t.Fatalf("Begin(0) = %d, %d", at, code)
	}
	ok(t, c.Change(0))
	if same, code := c.End(0, 0); same || code != api.OK {
		t.Errorf("End(0, 0) = %v, %d", same, code)
	}
	if at, code := c.Begin(0); at != 0 || code != api.ErrSeq {
		t.Errorf("Begin(0) = %d, %d", at, code)
	}
}

// P11.3: Change and Settle take turns, many times, each increases the count by one, and no other count changes.
func TestChangeSettle(t *testing.T) {
	for _, i := range []int{0, 1, 2} {
		c := must(t, 1, 1, 3)
		ok(t, c.Change((i+1)%3))
		want := fresh(1, 1, 3)
		want.counts[(i+1)%3] = 1
		for n := range int64(3000) {
			want.counts[i] = 2 * n
			is(t, c, want)
			answered(t, api.ErrSeq, c.Settle(i), c.Settle(i))
			is(t, c, want)
			ok(t, c.Change(i))
			want.counts[i]++
			is(t, c, want)
			answered(t, api.ErrSeq, c.Change(i), c.Change(i))
			is(t, c, want)
			ok(t, c.Settle(i))
		}
	}
}

// P11.3: the first and the last count of as many as there may be.
func TestManyCounts(t *testing.T) {
	c := must(t, 0, 0, 1000)
	want := fresh(0, 0, 1000)
	for _, i := range []int{0, 999, 500} {
		ok(t, c.Change(i))
		want.counts[i]++
		is(t, c, want)
	}
	ok(t, c.Settle(999), c.Change(999), c.Settle(999), c.Settle(0))
	want.counts[999], want.counts[0] = 4, 2
	is(t, c, want)
}

// P11.3: End compares with the count alone: the same one, earlier, greater and negative ones, even and odd ones, and such as share its lower bits.
func TestEnd(t *testing.T) {
	c := must(t, 0, 0, 2)
	for count := range int64(20) {
		ats := slices.Clone(values)
		for at := int64(-25); at <= 25; at++ {
			ats = append(ats, at)
		}
		for _, high := range []int64{1 << 8, 1 << 16, 1 << 32, math.MinInt64} {
			ats = append(ats, count+high, count-high)
		}
		for _, at := range ats {
			if same, code := c.End(1, at); same != (at == count) || code != api.OK {
				t.Fatalf("End(1, %d) = %v, %d at %d", at, same, code, count)
			}
			if same, code := c.End(0, at); same != (at == 0) || code != api.OK {
				t.Fatalf("End(0, %d) = %v, %d", at, same, code)
			}
		}
		if count%2 == 0 {
			ok(t, c.Change(1))
		} else {
			ok(t, c.Settle(1))
		}
	}
}

// call is one of the methods, which may be refused.
type call struct {
	name string
	ask  func(c *Cells) (zero bool, code api.Errno)
}

// callsOf are all methods with an error, by an index of a cell, a lock and a count, and an actor.
func callsOf(cell, lock, count, actor int) []call {
	return []call{
		{"Load", func(c *Cells) (bool, api.Errno) { v, code := c.Load(cell); return v == 0, code }},
		{"Store", func(c *Cells) (bool, api.Errno) { return true, c.Store(cell, 99) }},
		{"Add", func(c *Cells) (bool, api.Errno) { v, code := c.Add(cell, 98); return v == 0, code }},
		{"Swap", func(c *Cells) (bool, api.Errno) { did, code := c.Swap(cell, 0, 97); return !did, code }},
		{"Lock", func(c *Cells) (bool, api.Errno) { return true, c.Lock(lock, actor) }},
		{"Unlock", func(c *Cells) (bool, api.Errno) { return true, c.Unlock(lock, actor) }},
		{"Change", func(c *Cells) (bool, api.Errno) { return true, c.Change(count) }},
		{"Settle", func(c *Cells) (bool, api.Errno) { return true, c.Settle(count) }},
		{"Begin", func(c *Cells) (bool, api.Errno) { at, code := c.Begin(count); return at == 0, code }},
		{"End", func(c *Cells) (bool, api.Errno) { same, code := c.End(count, 0); return !same, code }},
	}
}

// P11.1, P11.2, P11.3: every method refuses what there is not, also where there is none at all, with zero values, and changes nothing.
func TestNoSuch(t *testing.T) {
	for _, sizes := range [][3]int{{0, 0, 0}, {1, 1, 1}, {2, 3, 5}, {0, 7, 7}, {7, 0, 7}, {7, 7, 0}, {1000, 1000, 1000}} {
		c := must(t, sizes[0], sizes[1], sizes[2])
		want := fresh(sizes[0], sizes[1], sizes[2])
		for j := range want.cells {
			want.cells[j] = int64(j) + 40
			ok(t, c.Store(j, want.cells[j]))
		}
		for j := 0; j < len(want.locks); j += 2 {
			want.locks[j] = 5
			ok(t, c.Lock(j, 5))
		}
		for j := 0; j < len(want.counts); j += 2 {
			want.counts[j] = 1
			ok(t, c.Change(j))
		}
		for _, i := range []int{math.MinInt, math.MinInt32, -1 << 32, -2, -1, 0, 1, 63, 1000, 1001, 1 << 32, math.MaxInt} {
			refuses(t, c, want, callsOf(sizes[0]+max(i, 0), sizes[1]+max(i, 0), sizes[2]+max(i, 0), 5))
			refuses(t, c, want, callsOf(min(i, -1), min(i, -1), min(i, -1), 5))
		}
		is(t, c, want)
	}
}

// refuses checks that each of some calls is refused with ErrArg, and changes nothing: of the many it looks at the ends alone.
func refuses(t *testing.T, c *Cells, want state, calls []call) {
	t.Helper()
	for _, m := range calls {
		if zero, code := m.ask(c); !zero || code != api.ErrArg {
			t.Fatalf("%s is answered with %d, zero values: %v", m.name, code, zero)
		}
		if len(want.cells) < 100 {
			is(t, c, want)
		}
	}
}

// P11.2: actors that are none are refused, of a free lock as of one that is held, ahead of ErrLock, with nothing changed; of a lock that there is not all the same.
func TestNoActor(t *testing.T) {
	c := must(t, 1, 3, 1)
	ok(t, c.Lock(1, 63), c.Lock(2, 0))
	want := state{[]int64{0}, []int{-1, 63, 0}, []int64{0}}
	for _, actor := range wrongActors {
		for _, i := range []int{0, 1, 2, 3, -1, math.MaxInt, math.MinInt} {
			answered(t, api.ErrArg, c.Lock(i, actor), c.Unlock(i, actor))
			is(t, c, want)
		}
	}
}

// P11.2: a lock that there is not is ErrArg for right actors too, and not ErrLock.
func TestNoLock(t *testing.T) {
	c := must(t, 1, 1, 1)
	ok(t, c.Lock(0, 7))
	for _, i := range []int{-1, 1, 2, 1000, math.MaxInt, math.MinInt} {
		for actor := range 64 {
			answered(t, api.ErrArg, c.Lock(i, actor), c.Unlock(i, actor))
		}
	}
	is(t, c, state{[]int64{0}, []int{7}, []int64{0}})
}

// P11.1, P11.2, P11.3: nil Cells answer with ErrNil and zero values, whatever is asked, and Holder with -1. Cells that no New has made are as nil ones.
func TestNil(t *testing.T) {
	for _, c := range []*Cells{nil, {}} {
		for _, i := range []int{0, 1, -1, 999, 1000, math.MaxInt, math.MinInt} {
			for _, actor := range []int{0, 3, 63, 64, -1, math.MaxInt, math.MinInt} {
				for _, m := range callsOf(i, i, i, actor) {
					if zero, code := m.ask(c); !zero || code != api.ErrNil {
						t.Errorf("%s of nil Cells is answered with %d, zero values: %v", m.name, code, zero)
					}
				}
			}
			if actor := c.Holder(i); actor != -1 {
				t.Errorf("Holder(%d) of nil Cells = %d", i, actor)
			}
		}
	}
}

// step makes one call, picked at random, and does to a state what the document says of it.
func (s *state) step(t *testing.T, c *Cells, r *rand.Rand) {
	t.Helper()
	i, actor, v := r.Intn(5)-1, r.Intn(5), values[r.Intn(len(values))]
	if r.Intn(10) == 0 {
		actor = []int{-1, 63, 64}[r.Intn(3)]
	}
	var got, want api.Errno
	var n, wantN int64
	did, wantDid := false, false
	switch r.Intn(10) {
	case 0:
		n, got = c.Load(i)
		if want = there(i, s.cells); want == api.OK {
			wantN = s.cells[i]
		}
	case 1:
		got = c.Store(i, v)
		if want = there(i, s.cells); want == api.OK {
			s.cells[i] = v
		}
	case 2:
		n, got = c.Add(i, v)
		if want = there(i, s.cells); want == api.OK {
			s.cells[i] += v
			wantN = s.cells[i]
		}
	case 3:
		old := values[r.Intn(len(values))]
		if r.Intn(2) == 0 && there(i, s.cells) == api.OK {
			old = s.cells[i]
		}
		did, got = c.Swap(i, old, v)
		if want = there(i, s.cells); want == api.OK && s.cells[i] == old {
			s.cells[i], wantDid = v, true
		}
	case 4, 5:
		got, want = c.Lock(i, actor), s.pass(i, actor, -1, actor)
	case 6:
		got, want = c.Unlock(i, actor), s.pass(i, actor, actor, -1)
	case 7:
		got, want = c.Change(i), s.advance(i, 0)
	case 8:
		got, want = c.Settle(i), s.advance(i, 1)
	case 9:
		n, got = c.Begin(i)
		if want = there(i, s.counts); want == api.OK && s.counts[i]%2 == 1 {
			want = api.ErrSeq
		} else if want == api.OK {
			wantN = s.counts[i]
		}
	}
	if got != want || n != wantN || did != wantDid {
		t.Fatalf("answered with %d, %v, %d, want %d, %v, %d", n, did, got, wantN, wantDid, want)
	}
}

// there is ErrArg unless an index is one of a list.
func there[V any](i int, list []V) api.Errno {
	if i < 0 || i >= len(list) {
		return api.ErrArg
	}
	return api.OK
}

// pass lets a lock's holder be another one, if it is the one.
func (s *state) pass(i, actor, from, to int) api.Errno {
	if there(i, s.locks) != api.OK || actor < 0 || actor > 63 {
		return api.ErrArg
	}
	if s.locks[i] != from {
		return api.ErrLock
	}
	s.locks[i] = to
	return api.OK
}

// advance increases a count whose rest is the one.
func (s *state) advance(i int, rest int64) api.Errno {
	if there(i, s.counts) != api.OK {
		return api.ErrArg
	}
	if s.counts[i]%2 != rest {
		return api.ErrSeq
	}
	s.counts[i]++
	return api.OK
}

// P11.1, P11.2, P11.3: mixed calls, held against a model behind each of them.
func TestModel(t *testing.T) {
	for seed := range int64(200) {
		r := rand.New(rand.NewSource(seed))
		cells, locks, counts := r.Intn(4), r.Intn(4), r.Intn(4)
		c, s := must(t, cells, locks, counts), fresh(cells, locks, counts)
		for range 400 {
			s.step(t, c, r)
			is(t, c, s)
		}
	}
}

// interleavings visits every order in which scripts of some lengths may be mixed, each keeping its own order: which of them is next.
func interleavings(lengths []int, visit func(order []int)) {
	var order []int
	var add func()
	add = func() {
		done := true
		for who := range lengths {
			if lengths[who] == 0 {
				continue
			}
			done = false
			lengths[who]--
			order = append(order, who)
			add()
			order = order[:len(order)-1]
			lengths[who]++
		}
		if done {
			visit(order)
		}
	}
	add()
}

// reading is a reader's way through one reading under the count 0 of the cells 0 and 1.
type reading struct {
	c        *Cells
	at       int64
	pair     [2]int64
	begun    bool
	finished bool
	same     bool
}

// step is the reader's step of a number.
func (r *reading) step(t *testing.T, n int) {
	t.Helper()
	var code api.Errno
	switch n {
	case 0:
		r.at, code = r.c.Begin(0)
		r.begun = code == api.OK
	case 1, 2:
		r.pair[n-1], code = r.c.Load(n - 1)
		ok(t, code)
	case 3:
		r.same, code = r.c.End(0, r.at)
		ok(t, code)
		r.finished = r.begun && r.same
	}
}

// P11.4: in whatever order the steps of a writer that changes two values twice, and of a reader, are mixed: what the reader got between Begin and a successful End existed at one time, and a reader that nobody disturbed succeeds.
func TestReadingUnderCount(t *testing.T) {
	orders, succeeded := 0, 0
	interleavings([]int{8, 4}, func(order []int) {
		c := must(t, 2, 0, 1)
		existed := map[[2]int64]bool{{0, 0}: true}
		r := reading{c: c}
		wrote, read, began, calm := 0, 0, 0, true
		for _, who := range order {
			if who == 0 {
				v := int64(wrote/4 + 1)
				switch wrote % 4 {
				case 0:
					ok(t, c.Change(0))
				case 1, 2:
					ok(t, c.Store(wrote%4-1, v*int64(wrote%4)))
				case 3:
					ok(t, c.Settle(0))
					existed[[2]int64{v, 2 * v}] = true
				}
				wrote++
				continue
			}
			if read == 0 {
				began = wrote
			}
			calm = calm && wrote == began && wrote%4 == 0
			r.step(t, read)
			read++
		}
		if r.finished && !existed[r.pair] {
			t.Errorf("in the order %v, %v was read, which never existed", order, r.pair)
		}
		if r.finished != calm {
			t.Errorf("in the order %v, the reader succeeds: %v, undisturbed: %v", order, r.finished, calm)
		}
		orders++
		if r.finished {
			succeeded++
		}
	})
	if orders != 495 || succeeded != 3 {
		t.Errorf("%d orders, of which %d succeeded", orders, succeeded)
	}
}

// P11.4: in whatever order three actors try a lock, and release it, at most one holds it at a time.
func TestOneHolder(t *testing.T) {
	actors := []int{0, 63, 7}
	interleavings([]int{4, 4, 4}, func(order []int) {
		c := must(t, 0, 1, 0)
		holder := -1
		steps := [3]int{}
		for _, who := range order {
			actor := actors[who]
			if steps[who]%2 == 0 {
				free := holder == -1
				if code := c.Lock(0, actor); (code == api.OK) != free || (code == api.ErrLock) == free {
					t.Fatalf("Lock by %d, held by %d: %d", actor, holder, code)
				} else if free {
					holder = actor
				}
			} else {
				mine := holder == actor
				if code := c.Unlock(0, actor); (code == api.OK) != mine || (code == api.ErrLock) == mine {
					t.Fatalf("Unlock by %d, held by %d: %d", actor, holder, code)
				} else if mine {
					holder = -1
				}
			}
			steps[who]++
			if got := c.Holder(0); got != holder {
				t.Fatalf("Holder(0) = %d, want %d", got, holder)
			}
		}
	})
}

// together runs something by some actors at one time, and waits for all of them.
func together(actors int, run func(actor int)) {
	var all sync.WaitGroup
	start := make(chan struct{})
	for actor := range actors {
		all.Add(1)
		go func() {
			defer all.Done()
			<-start
			run(actor)
		}()
	}
	close(start)
	all.Wait()
}

// P11.1: nothing is lost if many actors add to a cell, or swap one, at one time, and be it that they are the first to touch the cells.
func TestAddTogether(t *testing.T) {
	const actors, times = 8, 2000
	c := must(t, 3, 0, 0)
	var swapped [actors]int64
	together(actors, func(actor int) {
		for range times {
			c.Add(1, 1)
			v, _ := c.Load(2)
			if did, _ := c.Swap(2, v, v+1); did {
				swapped[actor]++
			}
		}
	})
	sum := int64(0)
	for _, n := range swapped {
		sum += n
	}
	is(t, c, state{cells: []int64{0, actors * times, sum}})
}

// rounds runs something by some actors, round by round. At each they wait a little for one another, so that they meet; on a busy machine they may miss one another, and go on all the same.
func rounds(actors, count int, run func(actor, round int)) {
	arrived := make([]atomic.Int64, count)
	together(actors, func(actor int) {
		for round := range count {
			arrived[round].Add(1)
			for look := 0; look < 300 && arrived[round].Load() < int64(actors); look++ {
				runtime.Gosched()
			}
			run(actor, round)
		}
	})
}

// P11.1, P11.2, P11.3: what many actors do first of all, at one time, is done to the same cells, locks and counts.
func TestFirstTogether(t *testing.T) {
	const actors, times = 4, 5000
	untouched := [3][]*Cells{}
	for kind := range untouched {
		for range times {
			untouched[kind] = append(untouched[kind], must(t, 200, 200, 200))
		}
	}
	var locked, changed [times][actors]bool
	rounds(actors, times, func(actor, round int) {
		untouched[0][round].Add(0, 1)
		locked[round][actor] = untouched[1][round].Lock(0, actor) == api.OK
		changed[round][actor] = untouched[2][round].Change(0) == api.OK
	})
	for round := range times {
		loads(t, untouched[0][round], 0, actors)
		if holder := untouched[1][round].Holder(0); many(locked[round][:]) != 1 || !locked[round][max(holder, 0)] {
			t.Fatalf("locked by %v, held by %d", locked[round], holder)
		}
		isAt(t, untouched[2][round], 0, 1)
		if many(changed[round][:]) != 1 {
			t.Fatalf("changed by %v", changed[round])
		}
	}
}

// P11.2, P11.4: of many actors that try a free lock at one time one gets it, and is the holder; of many that release it as the holder one does.
func TestLockRounds(t *testing.T) {
	const actors, size = 4, 1000
	for range 20 {
		c := must(t, 0, size, 0)
		var locked, unlocked [size][actors]bool
		rounds(actors, size, func(actor, round int) {
			locked[round][actor] = c.Lock(round, actor) == api.OK
		})
		want := fresh(0, size, 0)
		for round := range size {
			if many(locked[round][:]) != 1 {
				t.Fatalf("the lock %d is held by %v", round, locked[round])
			}
			want.locks[round] = slices.Index(locked[round][:], true)
		}
		is(t, c, want)
		rounds(actors, size, func(actor, round int) {
			unlocked[round][actor] = c.Unlock(round, want.locks[round]) == api.OK
		})
		for round := range size {
			if many(unlocked[round][:]) != 1 {
				t.Fatalf("the lock %d is released by %v", round, unlocked[round])
			}
		}
		is(t, c, fresh(0, size, 0))
	}
}

// P11.3, P11.4: of many actors that change an even count at one time one does, and so of many that settle an odd one.
func TestCountRounds(t *testing.T) {
	const actors, size = 4, 1000
	c := must(t, 0, 0, size)
	want := fresh(0, 0, size)
	for n := range 40 {
		advance := []func(i int) api.Errno{c.Change, c.Settle}[n%2]
		var advanced [size][actors]bool
		rounds(actors, size, func(actor, round int) {
			advanced[round][actor] = advance(round) == api.OK
		})
		for round := range size {
			if many(advanced[round][:]) != 1 {
				t.Fatalf("the count %d is advanced by %v", round, advanced[round])
			}
			want.counts[round]++
		}
		is(t, c, want)
	}
}

// many is how many of some are true.
func many(bools []bool) int {
	n := 0
	for _, b := range bools {
		if b {
			n++
		}
	}
	return n
}

// P11.4: at most one of many actors that run at one time holds a lock: what it protects, a number without any protection of its own, loses nothing, and the holder is told.
func TestLockTogether(t *testing.T) {
	const actors, times = 8, 5000
	c := must(t, 0, 2, 0)
	protected := 0
	var held, wrong [actors]int
	together(actors, func(actor int) {
		for range times {
			if c.Lock(1, actor) != api.OK {
				runtime.Gosched()
				continue
			}
			protected++
			held[actor]++
			if c.Holder(1) != actor || c.Lock(1, actor) != api.ErrLock || c.Unlock(1, (actor+1)%actors) != api.ErrLock || c.Unlock(1, actor) != api.OK {
				wrong[actor]++
			}
		}
	})
	sum := 0
	for _, n := range held {
		sum += n
	}
	if protected != sum || sum == 0 || wrong != [actors]int{} {
		t.Errorf("%d times held, %d of them protected; wrong answers: %v", sum, protected, wrong)
	}
	is(t, c, fresh(0, 2, 0))
}

// P11.3, P11.4: of many actors that change a count at one time one succeeds, and so of many that settle it; readers get what existed at one time.
func TestCountTogether(t *testing.T) {
	const actors, times = 8, 3000
	c := must(t, 2, 0, 1)
	var changes, torn, successes [actors]int64
	together(actors, func(actor int) {
		for range times {
			if actor%2 == 0 {
				if c.Change(0) == api.OK { // nobody else changes the cells till it is settled
					changes[actor]++
					v, _ := c.Add(0, 1)
					runtime.Gosched()
					c.Store(1, -v)
					if c.Settle(0) != api.OK {
						torn[actor]++
					}
				}
				continue
			}
			at, code := c.Begin(0)
			a, _ := c.Load(0)
			b, _ := c.Load(1)
			same, _ := c.End(0, at)
			if code != api.OK || !same {
				continue
			}
			successes[actor]++
			if a != -b || at != 2*a {
				torn[actor]++
			}
		}
	})
	sum := int64(0)
	for _, n := range changes {
		sum += n
	}
	if torn != [actors]int64{} || sum == 0 {
		t.Errorf("%d changes, torn readings: %v, successes: %v", sum, torn, successes)
	}
	is(t, c, state{cells: []int64{sum, -sum}, counts: []int64{2 * sum}})
}
