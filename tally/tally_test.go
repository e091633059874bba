package tally

import (
	"math"
	"math/rand"
	"slices"
	"sync"
	"sync/atomic"
	"testing"

	"waymaster/api"
)

// wrongSizes, wrongFields are no numbers of queues, and no fields; of some the lower bits alone would be.
var (
	wrongSizes  = []int{math.MinInt, math.MinInt32, -1 << 32, -1<<32 + 1, -64, -2, -1, 0, 65, 66, 128, 166, 167, 256, 257, 1000, 1001, 65537, 1 << 32, 1<<32 + 1, math.MaxInt}
	wrongFields = []int{math.MinInt, math.MinInt32, -1 << 32, -6, -2, -1, 6, 7, 8, 12, 64, 256, 1 << 32, 1<<32 + 1, math.MaxInt}
)

// someSizes are right numbers of queues: the least, the greatest, and some between.
var someSizes = []int{1, 2, 3, 7, 63, 64}

// added are numbers of 32 bits that may be added: the least, the greatest, and some between.
var added = []uint32{0, 1, 2, 255, 256, 65535, 65536, math.MaxInt32, 1 << 31, math.MaxUint32 - 1, math.MaxUint32}

// values are numbers of 64 bits: the least, the greatest, and some between.
var values = []uint64{0, 1, 2, 3, 1000, math.MaxUint32, 1 << 32, math.MaxInt64, 1 << 63, 1<<63 + 1, math.MaxUint64 - 1, math.MaxUint64}

// list is the six counters of a queue, in the order of their fields.
type list [6]uint64

// named is a list as counts.
func (l list) named() api.Counts {
	return api.Counts{Accepted: l[0], Refused: l[1], Posted: l[2], Delivered: l[3], Dropped: l[4], Bytes: l[5]}
}

// plus is the sum of two lists, with wraparound.
func (l list) plus(other list) list {
	for field, v := range other {
		l[field] += v
	}
	return l
}

// only is a list with one counter that is not 0.
func only(field int, v uint64) list {
	var l list
	l[field] = v
	return l
}

// all is a list of six equal counters.
func all(v uint64) list { return list{v, v, v, v, v, v} }

// different is a list of six counters that differ from each other, and from those of another n.
func different(n uint64) list {
	return list{10*n + 1, 10*n + 2, 10*n + 3, 10*n + 4, 10*n + 5, 10*n + 6}
}

// beyond are no queues of a tally of so many.
func beyond(queues int) []int {
	return []int{math.MinInt, math.MinInt32, -1 << 32, -64, -2, -1, queues, queues + 1, queues + 6, queues + 64, 6 * queues, 1000, 1 << 32, 1<<32 + queues, math.MaxInt - 1, math.MaxInt}
}

// must is a new tally.
func must(t *testing.T, queues int) *Tally {
	t.Helper()
	x, code := New(queues)
	if x == nil || code != api.OK {
		t.Fatalf("New(%d) = %v, %d", queues, x, code)
	}
	return x
}

// reads is a new reader.
func reads(t *testing.T, x *Tally, q int) *Reader {
	t.Helper()
	r, code := x.Reader(q)
	if r == nil || code != api.OK {
		t.Fatalf("Reader(%d) = %v, %d", q, r, code)
	}
	return r
}

// ok checks that nothing was refused.
func ok(t *testing.T, codes ...api.Errno) {
	t.Helper()
	answered(t, api.OK, codes...)
}

// answered checks that all were answered with one code.
func answered(t *testing.T, want api.Errno, codes ...api.Errno) {
	t.Helper()
	for i, code := range codes {
		if code != want {
			t.Fatalf("call %d is answered with %d, want %d", i, code, want)
		}
	}
}

// steps checks that some steps of a reader are answered with false and OK.
func steps(t *testing.T, r *Reader, count int) {
	t.Helper()
	for i := range count {
		if c, read, code := r.Step(); c != (api.Counts{}) || read || code != api.OK {
			t.Fatalf("step %d of %d = %v, %v, %d", i+1, count, c, read, code)
		}
	}
}

// fails checks that a reader's next step is answered with ErrSeq.
func fails(t *testing.T, r *Reader) {
	t.Helper()
	if c, read, code := r.Step(); c != (api.Counts{}) || read || code != api.ErrSeq {
		t.Fatalf("the step = %v, %v, %d, want ErrSeq", c, read, code)
	}
}

// ends checks that a reader's next step returns counters.
func ends(t *testing.T, r *Reader, want list) {
	t.Helper()
	if c, read, code := r.Step(); c != want.named() || !read || code != api.OK {
		t.Fatalf("the step = %v, %v, %d, want %v", c, read, code, want)
	}
}

// whole checks all eight steps of a reader that is at its first one.
func whole(t *testing.T, r *Reader, want list) {
	t.Helper()
	steps(t, r, 7)
	ends(t, r, want)
}

// state is what a tally is: the counters of all queues, and which of them have an open change.
type state struct {
	lists []list
	open  []bool
}

// fresh is the state of a new tally.
func fresh(queues int) state { return state{make([]list, queues), make([]bool, queues)} }

// sum is what Sum is to return.
func (s *state) sum() (api.Counts, api.Errno) {
	var sum list
	for q, l := range s.lists {
		if s.open[q] {
			return api.Counts{}, api.ErrSeq
		}
		sum = sum.plus(l)
	}
	return sum.named(), api.OK
}

// read is what Read is to return.
func (s *state) read(q int) (api.Counts, api.Errno) {
	if q < 0 || q >= len(s.lists) {
		return api.Counts{}, api.ErrArg
	}
	if s.open[q] {
		return api.Counts{}, api.ErrSeq
	}
	return s.lists[q].named(), api.OK
}

// is checks that a tally is in a state, by all that can be asked without changing it, and that it has no other queues.
func is(t *testing.T, x *Tally, want state) {
	t.Helper()
	for q := -1; q <= len(want.lists); q++ {
		w, wantCode := want.read(q)
		if c, code := x.Read(q); c != w || code != wantCode {
			t.Fatalf("Read(%d) = %v, %d, want %v, %d", q, c, code, w, wantCode)
		}
	}
	w, wantCode := want.sum()
	if c, code := x.Sum(); c != w || code != wantCode {
		t.Fatalf("Sum() = %v, %d, want %v, %d", c, code, w, wantCode)
	}
}

// shutIs checks the counters of all queues, of those with open changes once they have been shut.
func shutIs(t *testing.T, x *Tally, want state) {
	t.Helper()
	is(t, x, want)
	shut := fresh(len(want.lists))
	copy(shut.lists, want.lists)
	for q, open := range want.open {
		if open {
			ok(t, x.Shut(q))
		}
	}
	is(t, x, shut)
}

// P12.1: New makes as many queues as it is asked for, whose counters are all 0, and of which none has an open change.
func TestNew(t *testing.T) {
	for queues := 1; queues <= 64; queues++ {
		x := must(t, queues)
		is(t, x, fresh(queues))
		for q := range queues {
			answered(t, api.ErrTally, x.Shut(q), x.Add(q, api.FAccepted, 1), x.Add(q, api.FBytes, 0))
		}
		is(t, x, fresh(queues))
		for q := range queues {
			ok(t, x.Open(q))
		}
		answered(t, api.ErrArg, x.Open(-1), x.Open(queues))
		shutIs(t, x, state{make([]list, queues), slices.Repeat([]bool{true}, queues)})
	}
}

// P12.1: New refuses whatever is not in 1..64.
func TestNewWrong(t *testing.T) {
	for _, wrong := range wrongSizes {
		if x, code := New(wrong); x != nil || code != api.ErrArg {
			t.Errorf("New(%d) = %v, %d", wrong, x, code)
		}
	}
}

// P12.1: the document's example.
func TestOpenExample(t *testing.T) {
	x := must(t, 1)
	answered(t, api.ErrTally, x.Add(0, 0, 1), x.Shut(0))
	ok(t, x.Open(0))
	answered(t, api.ErrSeq, x.Open(0))
	ok(t, x.Shut(0))
	is(t, x, fresh(1))
}

// P12.1: every number is added to each field of the first, the last and a middle queue, once and again, and no other counter changes.
func TestAdd(t *testing.T) {
	for _, queues := range someSizes {
		for _, q := range []int{0, queues / 2, queues - 1} {
			x, want := must(t, queues), fresh(queues)
			for other := range queues {
				want.lists[other] = different(uint64(other))
				ok(t, x.Note(other, want.lists[other].named()))
			}
			for field := range 6 {
				for _, v := range added {
					ok(t, x.Open(q), x.Add(q, field, v))
					want.open[q] = true
					is(t, x, want)
					ok(t, x.Shut(q))
					want.open[q] = false
					want.lists[q][field] += uint64(v)
					is(t, x, want)
				}
			}
		}
	}
}

// P12.1: many may be added in one change, to one field and to others, with changes of other queues open meanwhile, and a change that adds nothing is one too.
func TestAddInOneChange(t *testing.T) {
	x := must(t, 4)
	ok(t, x.Open(0), x.Open(3), x.Open(1))
	ok(t, x.Add(0, api.FAccepted, 1), x.Add(3, api.FBytes, 7), x.Add(0, api.FAccepted, 2), x.Add(0, api.FBytes, math.MaxUint32))
	ok(t, x.Add(3, api.FBytes, 70), x.Add(0, api.FBytes, math.MaxUint32), x.Add(3, api.FDropped, 0), x.Add(0, api.FPosted, 5))
	want := state{[]list{{3, 0, 5, 0, 0, 2 * math.MaxUint32}, {}, {}, {0, 0, 0, 0, 0, 77}}, []bool{true, true, false, true}}
	is(t, x, want)
	ok(t, x.Shut(0))
	want.open[0] = false
	is(t, x, want)
	ok(t, x.Shut(3))
	want.open[3] = false
	shutIs(t, x, want)
}

// P12.1: each of the fields is the one that the document tells by its index.
func TestFields(t *testing.T) {
	for field, want := range map[int]api.Counts{
		api.FAccepted:  {Accepted: 9},
		api.FRefused:   {Refused: 9},
		api.FPosted:    {Posted: 9},
		api.FDelivered: {Delivered: 9},
		api.FDropped:   {Dropped: 9},
		api.FBytes:     {Bytes: 9},
	} {
		x := must(t, 2)
		ok(t, x.Open(1), x.Add(1, field, 9), x.Shut(1))
		if c, code := x.Read(1); c != want || code != api.OK {
			t.Errorf("Add to the field %d: %v, %d", field, c, code)
		}
	}
}

// P12.1: every counter wraps around at 64 bits, whatever is added, and carries nothing into another one.
func TestCountersWrap(t *testing.T) {
	for field := range 6 {
		for _, from := range values {
			for _, v := range added {
				x, want := must(t, 2), fresh(2)
				want.lists[1] = only(field, from)
				ok(t, x.Note(1, want.lists[1].named()), x.Open(1), x.Add(1, field, v), x.Shut(1))
				want.lists[1] = only(field, from+uint64(v))
				is(t, x, want)
			}
		}
	}
	x := must(t, 1)
	ok(t, x.Note(0, all(math.MaxUint64).named()), x.Open(0), x.Add(0, api.FPosted, 1), x.Add(0, api.FBytes, math.MaxUint32), x.Shut(0))
	is(t, x, state{[]list{{math.MaxUint64, math.MaxUint64, 0, math.MaxUint64, math.MaxUint64, math.MaxUint32 - 1}}, []bool{false}})
}

// P12.1: Open, Add and Shut take turns, many times; out of turn each is refused, again and again, and changes nothing.
func TestTurns(t *testing.T) {
	for _, q := range []int{0, 1, 2} {
		x, want := must(t, 3), fresh(3)
		ok(t, x.Open((q+1)%3))
		want.open[(q+1)%3] = true
		for n := range uint64(2000) {
			field := int(n % 6)
			answered(t, api.ErrTally, x.Shut(q), x.Add(q, field, 5), x.Shut(q), x.Add(q, field, 0))
			is(t, x, want)
			ok(t, x.Open(q))
			want.open[q] = true
			answered(t, api.ErrSeq, x.Open(q), x.Open(q), x.Note(q, all(1).named()))
			is(t, x, want)
			ok(t, x.Add(q, field, uint32(n)))
			want.lists[q][field] += n
			answered(t, api.ErrSeq, x.Open(q))
			is(t, x, want)
			ok(t, x.Shut(q))
			want.open[q] = false
			is(t, x, want)
		}
		shutIs(t, x, want)
	}
}

// P12.2: the document's examples.
func TestNoteExample(t *testing.T) {
	x := must(t, 1)
	ok(t, x.Note(0, api.Counts{Accepted: 2}))
	if c, code := x.Read(0); c != (api.Counts{Accepted: 2}) || code != api.OK {
		t.Errorf("Read(0) = %v, %d", c, code)
	}
	ok(t, x.Open(0))
	if c, code := x.Read(0); c != (api.Counts{}) || code != api.ErrSeq {
		t.Errorf("Read(0) = %v, %d", c, code)
	}
}

// P12.2: all of what is noted is added, each to its own counter of the one queue: zeros, the greatest numbers, and such as wrap around.
func TestNote(t *testing.T) {
	for _, queues := range someSizes {
		for _, q := range []int{0, queues / 2, queues - 1} {
			x, want := must(t, queues), fresh(queues)
			note := func(l list) {
				t.Helper()
				ok(t, x.Note(q, l.named()))
				want.lists[q] = want.lists[q].plus(l)
				is(t, x, want)
			}
			note(list{})
			note(list{1, 2, 3, 4, 5, 6})
			note(list{})
			note(all(math.MaxUint64))
			note(all(math.MaxUint64))
			note(list{math.MaxUint64, 0, 1 << 63, 0, 1 << 32, math.MaxUint64 - 4})
			for field := range 6 {
				for _, v := range values {
					note(only(field, v))
				}
			}
			answered(t, api.ErrTally, x.Shut(q), x.Add(q, 0, 1))
			is(t, x, want)
		}
	}
}

// P12.2: a Note changes the sequence count also where all is 0, so that a reader that had begun fails; that of another queue stays.
func TestNoteOfNothing(t *testing.T) {
	for q := range 3 {
		x := must(t, 3)
		var readers []*Reader
		for other := range 3 {
			readers = append(readers, reads(t, x, other))
			steps(t, readers[other], 7)
		}
		ok(t, x.Note(q, api.Counts{}))
		for other, r := range readers {
			if other == q {
				fails(t, r)
			} else {
				ends(t, r, list{})
			}
			whole(t, r, list{})
		}
	}
}

// P12.2: a Note lets the sequence count go up by two, whatever is noted, and one that is refused not at all.
func TestNoteBySequence(t *testing.T) {
	x := must(t, 2)
	for n := range int64(200) {
		if same, code := x.cells.End(1, 2*n); !same || code != api.OK {
			t.Fatalf("behind %d notes the sequence count is not %d", n, 2*n)
		}
		answered(t, api.ErrArg, x.Note(2, all(1).named()), x.Note(-1, all(1).named()))
		ok(t, x.Note(1, all(uint64(n%3)).named()))
	}
	ok(t, x.Open(1))
	answered(t, api.ErrSeq, x.Note(1, all(1).named()))
	for q, want := range []int64{0, 401} {
		if same, code := x.cells.End(q, want); !same || code != api.OK {
			t.Errorf("the sequence count of the queue %d is not %d", q, want)
		}
	}
}

// P12.2: with an open change of the first, the last or a middle queue, or of all, Note and Read of it and Sum are refused, those of the others not; once it is shut, all are there again.
func TestWhileOpen(t *testing.T) {
	for _, queues := range someSizes {
		for _, open := range [][]int{{0}, {queues - 1}, {queues / 2}, {0, queues - 1}, {queues / 2, queues - 1}} {
			open = slices.Compact(open)
			x, want := must(t, queues), fresh(queues)
			for q := range queues {
				want.lists[q] = different(uint64(q))
				ok(t, x.Note(q, want.lists[q].named()))
			}
			is(t, x, want)
			for _, q := range open {
				ok(t, x.Open(q))
				want.open[q] = true
				is(t, x, want)
			}
			for q := range queues {
				if want.open[q] {
					answered(t, api.ErrSeq, x.Note(q, all(5).named()), x.Note(q, api.Counts{}))
					continue
				}
				ok(t, x.Note(q, all(5).named()))
				want.lists[q] = want.lists[q].plus(all(5))
			}
			is(t, x, want)
			for _, q := range open {
				ok(t, x.Shut(q))
				want.open[q] = false
				is(t, x, want)
			}
		}
	}
}

// P12.2: the sums are those of all queues, one or 64 of them, the fields apart from each other, and wrap around.
func TestSum(t *testing.T) {
	x := must(t, 1)
	ok(t, x.Note(0, all(math.MaxUint64).named()))
	is(t, x, state{[]list{all(math.MaxUint64)}, []bool{false}})

	x = must(t, 64)
	want := fresh(64)
	for q := range 64 {
		want.lists[q] = list{1, uint64(q), 1 << 58, math.MaxUint64, 1 << 63, 1 << q}
		ok(t, x.Note(q, want.lists[q].named()))
	}
	is(t, x, want)
	if c, code := x.Sum(); c != (api.Counts{Accepted: 64, Refused: 2016, Posted: 0, Delivered: math.MaxUint64 - 63, Dropped: 0, Bytes: math.MaxUint64}) || code != api.OK {
		t.Errorf("Sum() = %v, %d", c, code)
	}
	ok(t, x.Note(63, api.Counts{Posted: 9, Bytes: 1}))
	if c, code := x.Sum(); c != (api.Counts{Accepted: 64, Refused: 2016, Posted: 9, Delivered: math.MaxUint64 - 63, Dropped: 0, Bytes: 0}) || code != api.OK {
		t.Errorf("Sum() = %v, %d", c, code)
	}
}

// P12.1, P12.2: two tallies have nothing in common, nor have their readers.
func TestTwoTallies(t *testing.T) {
	x, y := must(t, 2), must(t, 2)
	r, s := reads(t, x, 1), reads(t, y, 1)
	steps(t, r, 4)
	steps(t, s, 4)
	ok(t, x.Open(1), x.Add(1, api.FPosted, 8))
	is(t, y, fresh(2))
	answered(t, api.ErrTally, y.Add(1, api.FPosted, 9), y.Shut(1))
	steps(t, s, 3)
	ends(t, s, list{})
	ok(t, y.Note(1, different(3).named()), y.Open(0))
	is(t, x, state{make([]list, 2), []bool{false, true}})
	ok(t, x.Shut(1))
	is(t, x, state{[]list{{}, only(2, 8)}, make([]bool, 2)})
	is(t, y, state{[]list{{}, different(3)}, []bool{true, false}})
	steps(t, r, 3)
	fails(t, r)
	whole(t, r, only(2, 8))
	whole(t, s, different(3))
}

// refusal is a call that is to be refused, and whether what it returned beside the code was zero.
type refusal struct {
	name string
	ask  func(x *Tally) (zero bool, code api.Errno)
}

// callsOf are all calls of a queue.
func callsOf(q int) []refusal {
	return []refusal{
		{"Open", func(x *Tally) (bool, api.Errno) { return true, x.Open(q) }},
		{"Shut", func(x *Tally) (bool, api.Errno) { return true, x.Shut(q) }},
		{"Add", func(x *Tally) (bool, api.Errno) { return true, x.Add(q, api.FBytes, 3) }},
		{"Add of 0", func(x *Tally) (bool, api.Errno) { return true, x.Add(q, api.FAccepted, 0) }},
		{"Note", func(x *Tally) (bool, api.Errno) { return true, x.Note(q, different(4).named()) }},
		{"Note of nothing", func(x *Tally) (bool, api.Errno) { return true, x.Note(q, api.Counts{}) }},
		{"Read", func(x *Tally) (bool, api.Errno) { c, code := x.Read(q); return c == api.Counts{}, code }},
		{"Reader", func(x *Tally) (bool, api.Errno) { r, code := x.Reader(q); return r == nil, code }},
	}
}

// addOf is the call of Add to a field of a queue.
func addOf(q, field int) refusal {
	return refusal{"Add to a field", func(x *Tally) (bool, api.Errno) { return true, x.Add(q, field, 3) }}
}

// refuses checks that calls are refused with a code and zero values, that each leaves all as it was, and that a reader which had begun does not notice.
func refuses(t *testing.T, x *Tally, want state, code api.Errno, calls ...refusal) {
	t.Helper()
	for i, call := range calls {
		var readers []*Reader
		for q, open := range want.open {
			r := reads(t, x, q)
			if !open {
				steps(t, r, 1+i%7)
			}
			readers = append(readers, r)
		}
		if zero, got := call.ask(x); !zero || got != code {
			t.Fatalf("%s is answered with %d, want %d; zero values: %v", call.name, got, code, zero)
		}
		is(t, x, want)
		for q, open := range want.open {
			if open {
				fails(t, readers[q])
				continue
			}
			steps(t, readers[q], 6-i%7)
			ends(t, readers[q], want.lists[q])
		}
	}
}

// P12.1, P12.2, P12.3: there is no queue before the first and behind the last one, and no field, whether changes are open or not: ErrArg, ahead of ErrSeq and ErrTally, with zero values, and nothing changes.
func TestNoSuch(t *testing.T) {
	for _, queues := range []int{1, 2, 5, 64} {
		for _, open := range [][]int{{}, {0}, {queues - 1}, {0, queues - 1}} {
			open = slices.Compact(open)
			x, want := must(t, queues), fresh(queues)
			for q := range queues {
				want.lists[q] = different(uint64(q))
				ok(t, x.Note(q, want.lists[q].named()))
			}
			for _, q := range open {
				ok(t, x.Open(q))
				want.open[q] = true
			}
			for _, q := range beyond(queues) {
				if q >= 0 && q < queues {
					continue // six times one queue and the like
				}
				refuses(t, x, want, api.ErrArg, callsOf(q)...)
				refuses(t, x, want, api.ErrArg, addOf(q, 6), addOf(q, -1))
			}
			for _, field := range wrongFields {
				refuses(t, x, want, api.ErrArg, addOf(0, field), addOf(queues-1, field), addOf(queues/2, field))
			}
			shutIs(t, x, want)
		}
	}
}

// P12.1, P12.2: what is refused for an open change, or for none, leaves all as it was.
func TestRefusedChangesNothing(t *testing.T) {
	x, want := must(t, 3), fresh(3)
	for q := range 3 {
		want.lists[q] = different(uint64(q) + 7)
		ok(t, x.Note(q, want.lists[q].named()))
	}
	for q := range 3 {
		refuses(t, x, want, api.ErrTally, addOf(q, 0), addOf(q, 5), refusal{"Shut", func(x *Tally) (bool, api.Errno) { return true, x.Shut(q) }})
		ok(t, x.Open(q))
		want.open[q] = true
		refused := slices.DeleteFunc(callsOf(q), func(call refusal) bool {
			return call.name == "Shut" || call.name == "Reader" || call.name == "Add" || call.name == "Add of 0"
		})
		refused = append(refused, refusal{"Sum", func(x *Tally) (bool, api.Errno) { c, code := x.Sum(); return c == api.Counts{}, code }})
		refuses(t, x, want, api.ErrSeq, refused...)
		ok(t, x.Shut(q))
		want.open[q] = false
	}
	is(t, x, want)
}

// P12.1, P12.2, P12.3: a nil Tally and a nil Reader answer with ErrNil and zero values, whatever is asked. Those that no call has returned are as nil ones.
func TestNil(t *testing.T) {
	for _, x := range []*Tally{nil, {}} {
		for _, q := range []int{0, 1, -1, 63, 64, math.MaxInt, math.MinInt} {
			calls := callsOf(q)
			for _, field := range []int{0, 5, 6, -1, math.MaxInt, math.MinInt} {
				calls = append(calls, addOf(q, field))
			}
			for _, call := range calls {
				if zero, code := call.ask(x); !zero || code != api.ErrNil {
					t.Errorf("%s of a nil Tally is answered with %d, zero values: %v", call.name, code, zero)
				}
			}
		}
		if c, code := x.Sum(); c != (api.Counts{}) || code != api.ErrNil {
			t.Errorf("Sum() of a nil Tally = %v, %d", c, code)
		}
	}
	for _, r := range []*Reader{nil, {}, {tally: &Tally{}}} {
		for range 20 {
			if c, read, code := r.Step(); c != (api.Counts{}) || read || code != api.ErrNil {
				t.Errorf("Step() of a nil Reader = %v, %v, %d", c, read, code)
			}
		}
	}
}

// P12.3: eight steps that nothing disturbs, of the first, the last and a middle queue, again and again; between them the counters may change.
func TestReader(t *testing.T) {
	for _, queues := range someSizes {
		for _, q := range []int{0, queues / 2, queues - 1} {
			x, want := must(t, queues), fresh(queues)
			for other := range queues {
				want.lists[other] = different(uint64(other))
				ok(t, x.Note(other, want.lists[other].named()))
			}
			r := reads(t, x, q)
			whole(t, r, want.lists[q])
			whole(t, r, want.lists[q])
			for n := range uint64(5) {
				by := list{n, 1 << 63, math.MaxUint64, 5 * n, 0, 1}
				ok(t, x.Note(q, by.named()))
				want.lists[q] = want.lists[q].plus(by)
				whole(t, r, want.lists[q])
			}
			is(t, x, want)
		}
	}
}

// P12.3: a reader stays at its first step as long as a change is open, and then makes its eight steps.
func TestReaderWaits(t *testing.T) {
	x := must(t, 2)
	ok(t, x.Note(1, different(1).named()), x.Open(1))
	r := reads(t, x, 1)
	for n := range 20 {
		fails(t, r)
		if n%2 == 0 {
			ok(t, x.Add(1, api.FRefused, 1))
		}
	}
	ok(t, x.Shut(1))
	whole(t, r, different(1).plus(only(1, 10)))
	ok(t, x.Open(1))
	fails(t, r)
	ok(t, x.Shut(1), x.Open(1))
	fails(t, r)
	fails(t, r)
	ok(t, x.Shut(1))
	whole(t, r, different(1).plus(only(1, 10)))
}

// disturbance is what is done to a queue between two steps of a reader: how it changes the counters, and whether a change is open behind it.
type disturbance struct {
	name string
	do   func(x *Tally, q int) []api.Errno
	by   list
	open bool
}

// disturbances are ways to change a queue.
func disturbances() []disturbance {
	return []disturbance{
		{"Open", func(x *Tally, q int) []api.Errno { return []api.Errno{x.Open(q)} }, list{}, true},
		{"Open, Add", func(x *Tally, q int) []api.Errno { return []api.Errno{x.Open(q), x.Add(q, 3, 5)} }, only(3, 5), true},
		{"Open, Shut", func(x *Tally, q int) []api.Errno { return []api.Errno{x.Open(q), x.Shut(q)} }, list{}, false},
		{"Open, Add, Shut", func(x *Tally, q int) []api.Errno { return []api.Errno{x.Open(q), x.Add(q, 5, 6), x.Shut(q)} }, only(5, 6), false},
		{"Open, Shut, Open", func(x *Tally, q int) []api.Errno { return []api.Errno{x.Open(q), x.Shut(q), x.Open(q)} }, list{}, true},
		{"Note", func(x *Tally, q int) []api.Errno { return []api.Errno{x.Note(q, different(8).named())} }, different(8), false},
		{"Note of nothing", func(x *Tally, q int) []api.Errno { return []api.Errno{x.Note(q, api.Counts{})} }, list{}, false},
		{"Note there and back", func(x *Tally, q int) []api.Errno {
			return []api.Errno{x.Note(q, all(1).named()), x.Note(q, all(math.MaxUint64).named())}
		}, list{}, false},
	}
}

// P12.3: whatever changes the queue between any two steps of a reader lets the last step fail, and none before it. The reader begins again behind it, as soon as no change is open.
func TestReaderDisturbed(t *testing.T) {
	for _, d := range disturbances() {
		for behind := 1; behind <= 7; behind++ {
			x := must(t, 3)
			ok(t, x.Note(1, different(1).named()))
			r := reads(t, x, 1)
			steps(t, r, behind)
			ok(t, d.do(x, 1)...)
			steps(t, r, 7-behind)
			fails(t, r)
			if d.open {
				fails(t, r)
				fails(t, r)
				ok(t, x.Shut(1))
			}
			whole(t, r, different(1).plus(d.by))
			whole(t, r, different(1).plus(d.by))
		}
	}
}

// P12.3: a change that is open in the middle and shut before the end lets the reader fail all the same, wherever the two are.
func TestReaderDisturbedOnTheWay(t *testing.T) {
	for opened := 1; opened <= 7; opened++ {
		for shut := opened; shut <= 7; shut++ {
			x := must(t, 1)
			r := reads(t, x, 0)
			steps(t, r, opened)
			ok(t, x.Open(0), x.Add(0, opened%6, 3))
			steps(t, r, shut-opened)
			ok(t, x.Shut(0))
			steps(t, r, 7-shut)
			fails(t, r)
			whole(t, r, only(opened%6, 3))
		}
	}
}

// P12.3: what changes ahead of a reader's first step or behind its last one does not disturb it, nor what changes another queue, nor what is read or refused, at any of its steps.
func TestReaderUndisturbed(t *testing.T) {
	for _, d := range disturbances() {
		for _, other := range []int{0, 2} {
			for behind := range 9 {
				x := must(t, 3)
				ok(t, x.Note(1, different(1).named()))
				r := reads(t, x, 1)
				steps(t, r, min(behind, 7))
				if behind == 8 {
					ends(t, r, different(1))
				}
				ok(t, d.do(x, other)...)
				x.Read(1)
				x.Sum()
				x.Add(1, 0, 4)
				x.Shut(1)
				x.Add(1, 6, 4)
				whole(t, reads(t, x, 1), different(1))
				steps(t, r, 7-min(behind, 7))
				if behind < 8 {
					ends(t, r, different(1))
				}
				whole(t, r, different(1))
			}
		}
		x := must(t, 1)
		r := reads(t, x, 0)
		want := list{}
		for range 5 { // ahead of each reading, and so behind the one before
			ok(t, d.do(x, 0)...)
			want = want.plus(d.by)
			if d.open {
				fails(t, r)
				ok(t, x.Shut(0))
			}
			whole(t, r, want)
		}
	}
}

// P12.3: a reading that failed leaves nothing behind for the next one, whether that is disturbed or not.
func TestReaderFailsAgain(t *testing.T) {
	x := must(t, 1)
	r := reads(t, x, 0)
	for n := range uint64(30) {
		behind := 1 + int(n)%7
		steps(t, r, behind)
		ok(t, x.Note(0, all(1).named()))
		steps(t, r, 7-behind)
		fails(t, r)
		if n%3 == 0 {
			whole(t, r, all(n+1))
		}
	}
	whole(t, r, all(30))
}

// P12.3: two readers of one queue go on for themselves, whatever step each is at.
func TestTwoReaders(t *testing.T) {
	for ahead := range 8 {
		x := must(t, 2)
		ok(t, x.Note(1, different(2).named()))
		r, s := reads(t, x, 1), reads(t, x, 1)
		steps(t, r, ahead)
		whole(t, s, different(2))
		steps(t, r, 7-ahead)
		steps(t, s, ahead)
		ends(t, r, different(2))
		ok(t, x.Note(1, all(1).named()))
		whole(t, r, different(2).plus(all(1)))
		steps(t, s, 7-ahead)
		if ahead > 0 {
			fails(t, s)
		} else {
			ends(t, s, different(2).plus(all(1)))
		}
		whole(t, s, different(2).plus(all(1)))
	}
}

// P12.3: readers of two queues, step by step in turn: a change disturbs that of its own queue alone.
func TestReadersOfTwoQueues(t *testing.T) {
	for changed := range 2 {
		for behind := 1; behind <= 7; behind++ {
			x := must(t, 2)
			ok(t, x.Note(0, different(0).named()), x.Note(1, different(1).named()))
			readers := []*Reader{reads(t, x, 0), reads(t, x, 1)}
			for n := 1; n <= 7; n++ {
				steps(t, readers[0], 1)
				steps(t, readers[1], 1)
				if n == behind {
					ok(t, x.Open(changed), x.Add(changed, 4, 4))
				}
			}
			fails(t, readers[changed])
			ends(t, readers[1-changed], different(uint64(1-changed)))
			fails(t, readers[changed])
			ok(t, x.Shut(changed))
			whole(t, readers[changed], different(uint64(changed)).plus(only(4, 4)))
			whole(t, readers[1-changed], different(uint64(1-changed)))
		}
	}
}

// P12.3: each of the six steps in the middle loads one counter, in order. From outside that is not to be seen, so the cells are written to past the sequence count: the counter of each field must be the one that stood there at its step.
func TestReaderLoadsInOrder(t *testing.T) {
	for _, q := range []int{0, 1} {
		x := must(t, 2)
		r := reads(t, x, q)
		for step := range int64(8) {
			for cell := range 12 {
				ok(t, x.cells.Store(cell, 100*step+int64(cell)))
			}
			if step < 7 {
				steps(t, r, 1)
			}
		}
		base := 6 * uint64(q)
		ends(t, r, list{100 + base, 201 + base, 302 + base, 403 + base, 504 + base, 605 + base})
	}
}

// model is what a tally is by the document's words, with the sequence counts.
type model struct {
	state
	counts []int
}

// modelOf is that of a new tally.
func modelOf(queues int) *model { return &model{fresh(queues), make([]int, queues)} }

// has tells whether there is a queue.
func (m *model) has(q int) bool { return q >= 0 && q < len(m.lists) }

// turn opens or shuts a change: that is answered with a code if it is so already.
func (m *model) turn(q int, open bool, refused api.Errno) api.Errno {
	if !m.has(q) {
		return api.ErrArg
	}
	if m.open[q] == open {
		return refused
	}
	m.open[q] = open
	m.counts[q]++
	return api.OK
}

// add adds to a counter.
func (m *model) add(q, field int, v uint32) api.Errno {
	if !m.has(q) || field < 0 || field > 5 {
		return api.ErrArg
	}
	if !m.open[q] {
		return api.ErrTally
	}
	m.lists[q][field] += uint64(v)
	return api.OK
}

// note adds to all counters.
func (m *model) note(q int, l list) api.Errno {
	if !m.has(q) {
		return api.ErrArg
	}
	if m.open[q] {
		return api.ErrSeq
	}
	m.lists[q] = m.lists[q].plus(l)
	m.counts[q] += 2
	return api.OK
}

// reading is a reader by the document's words. What it has loaded needs not be kept: if the sequence count has not changed, it is what is there.
type reading struct {
	q    int
	made int
	at   int
}

// step is the reader's next step.
func (r *reading) step(m *model) (api.Counts, bool, api.Errno) {
	switch {
	case r.made == 0 && m.open[r.q]:
		return api.Counts{}, false, api.ErrSeq
	case r.made == 0:
		r.at = m.counts[r.q]
	case r.made == 7:
		r.made = 0
		if r.at != m.counts[r.q] {
			return api.Counts{}, false, api.ErrSeq
		}
		return m.lists[r.q].named(), true, api.OK
	}
	r.made++
	return api.Counts{}, false, api.OK
}

// same checks a step of a reader against that of a model's.
func same(t *testing.T, r *Reader, m *model, want *reading) {
	t.Helper()
	w, wantRead, wantCode := want.step(m)
	if c, read, code := r.Step(); c != w || read != wantRead || code != wantCode {
		t.Fatalf("Step() = %v, %v, %d, want %v, %v, %d", c, read, code, w, wantRead, wantCode)
	}
}

// some is a list of six numbers picked at random.
func some(r *rand.Rand) list {
	var l list
	for field := range l {
		l[field] = values[r.Intn(len(values))]
	}
	return l
}

// act makes a call, picked at random, and does to a model what the document says of it.
func (m *model) act(t *testing.T, x *Tally, r *rand.Rand) {
	t.Helper()
	q, field, v := r.Intn(len(m.lists)), r.Intn(6), added[r.Intn(len(added))]
	if r.Intn(12) == 0 {
		q = []int{-1, len(m.lists)}[r.Intn(2)]
	}
	if r.Intn(12) == 0 {
		field = []int{-1, 6}[r.Intn(2)]
	}
	var got, want api.Errno
	switch r.Intn(6) {
	case 0:
		got, want = x.Open(q), m.turn(q, true, api.ErrSeq)
	case 1, 2:
		got, want = x.Add(q, field, v), m.add(q, field, v)
	case 3, 4:
		got, want = x.Shut(q), m.turn(q, false, api.ErrTally)
	case 5:
		l := some(r)
		got, want = x.Note(q, l.named()), m.note(q, l)
	}
	if got != want {
		t.Fatalf("answered with %d, want %d", got, want)
	}
}

// P12.1, P12.2, P12.3, P12.4: mixed calls and steps of several readers, held against a model.
func TestModel(t *testing.T) {
	succeeded := 0
	for seed := range int64(300) {
		r := rand.New(rand.NewSource(seed))
		queues := 1 + r.Intn(4)
		x, m := must(t, queues), modelOf(queues)
		var readers []*Reader
		var readings []*reading
		for range 4 {
			q := r.Intn(queues)
			readers, readings = append(readers, reads(t, x, q)), append(readings, &reading{q: q})
		}
		calm := 1 + r.Intn(40) // how many steps there are to one change
		for range 600 {
			if r.Intn(calm) == 0 {
				m.act(t, x, r)
				is(t, x, m.state)
			}
			i := r.Intn(len(readers))
			if readings[i].made == 7 && readings[i].at == m.counts[readings[i].q] {
				succeeded++
			}
			same(t, readers[i], m, readings[i])
		}
		shutIs(t, x, m.state)
	}
	if succeeded < 1000 {
		t.Errorf("%d readings succeeded", succeeded)
	}
}

// interleavings visits every order in which scripts of some lengths may be mixed, each keeping its own order: which of them is next.
func interleavings(lengths []int, visit func(order []int)) {
	var order []int
	var add func()
	add = func() {
		done := true
		for who := range lengths {
			if lengths[who] == 0 {
				continue
			}
			done = false
			lengths[who]--
			order = append(order, who)
			add()
			order = order[:len(order)-1]
			lengths[who]++
		}
		if done {
			visit(order)
		}
	}
	add()
}

// P12.4: in whatever order the steps of a writer, with two changes of a queue and a Note, and those of a reader are mixed: what the reader returns existed at one time between its first and its last step, each change completely or not at all, and it fails only if a change came between.
func TestReadingIsOfOneTime(t *testing.T) {
	orders, succeeded := 0, 0
	writes := []func(x *Tally) api.Errno{
		func(x *Tally) api.Errno { return x.Open(0) },
		func(x *Tally) api.Errno { return x.Add(0, 0, 1) },
		func(x *Tally) api.Errno { return x.Add(0, 5, 1) },
		func(x *Tally) api.Errno { return x.Shut(0) },
		func(x *Tally) api.Errno { return x.Note(0, all(10).named()) },
		func(x *Tally) api.Errno { return x.Open(0) },
		func(x *Tally) api.Errno { return x.Add(0, 2, 100) },
		func(x *Tally) api.Errno { return x.Shut(0) },
	}
	// By how many writes were made: what existed behind them, if no change was open.
	existed := map[int]list{0: {}, 4: {1, 0, 0, 0, 0, 1}, 5: {11, 10, 10, 10, 10, 11}, 8: {11, 10, 110, 10, 10, 11}}
	interleavings([]int{len(writes), 8}, func(order []int) {
		x := must(t, 1)
		r := reads(t, x, 0)
		wrote, made, began := 0, 0, 0
		for _, who := range order {
			if who == 0 {
				ok(t, writes[wrote](x))
				wrote++
				continue
			}
			_, shut := existed[wrote]
			switch {
			case made == 0 && !shut:
				fails(t, r)
				continue
			case made == 0:
				began = wrote
			case made == 7 && began != wrote:
				fails(t, r)
			case made == 7:
				ends(t, r, existed[wrote])
				succeeded++
			}
			if made < 7 {
				steps(t, r, 1)
			}
			made++
		}
		orders++
	})
	if orders != 12870 || succeeded != 4 {
		t.Errorf("%d orders, of which %d succeeded", orders, succeeded)
	}
}

// P12.4: two readers of a queue and a Note, in whatever order: held against a model.
func TestReadingsOfTwo(t *testing.T) {
	interleavings([]int{1, 8, 8}, func(order []int) {
		x, m := must(t, 1), modelOf(1)
		readers := []*Reader{reads(t, x, 0), reads(t, x, 0)}
		readings := []*reading{{}, {}}
		for _, who := range order {
			if who == 0 {
				ok(t, x.Note(0, all(3).named()), m.note(0, all(3)))
				continue
			}
			same(t, readers[who-1], m, readings[who-1])
		}
	})
}

// P12.4: readers that run while writers do, all at one time, return only what existed at one time: here all counters of a queue are equal whenever no change is open.
func TestTogether(t *testing.T) {
	const writers, times = 4, 1500
	x := must(t, 2)
	var work sync.WaitGroup
	var made [writers]uint64
	for w := range writers {
		work.Go(func() {
			for range times {
				if x.Note(1, all(1).named()) == api.OK {
					made[w]++
				}
				if x.Open(1) != api.OK {
					continue
				}
				for field := range 6 {
					x.Add(1, field, 1)
				}
				made[w]++
				x.Shut(1)
			}
		})
	}
	var torn atomic.Int64
	for range writers {
		work.Go(func() {
			r, _ := x.Reader(1)
			for range 30 * times {
				c, read, code := r.Step()
				if read && c != all(c.Bytes).named() || !read && c != (api.Counts{}) || code != api.OK && code != api.ErrSeq {
					torn.Add(1)
				}
				if c, _ := x.Read(1); c != all(c.Bytes).named() {
					torn.Add(1)
				}
			}
		})
	}
	work.Wait()
	sum := uint64(0)
	for _, n := range made {
		sum += n
	}
	if torn.Load() != 0 || sum == 0 {
		t.Errorf("%d changes, %d torn readings", sum, torn.Load())
	}
	is(t, x, state{[]list{{}, all(sum)}, make([]bool, 2)})
}
