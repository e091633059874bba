package queue

import (
	"math"
	"math/rand"
	"slices"
	"testing"

	"waymaster/api"
	"waymaster/bucket"
	"waymaster/dql"
)

// The wrong numbers: budgets, maxima of packets and of bytes, Lens, sizes of rings, bounds of the byte limit, rates, bursts. Of some the lower bits alone would be right.
var (
	wrongBudgets = []int{math.MinInt, math.MinInt32, -1 << 32, -1000, -1, 0, 1001, 1002, 65536, 1 << 32, 1<<32 + 1, math.MaxInt}
	wrongPackets = []int{math.MinInt, -1, 0, 1001, 1<<32 + 1, math.MaxInt}
	wrongBytes   = []int{math.MinInt, -1, 0, 1073741825, 1<<32 + 1, math.MaxInt}
	wrongLens    = []uint32{0, 65536, 65537, 1 << 31, math.MaxUint32}
	wrongRings   = []int{math.MinInt, -1, 0, 3, 6, 4095, 4097, 8192, 1<<32 + 1, math.MaxInt}
	wrongLimits  = [][2]uint32{{0, 0}, {0, 10}, {11, 10}, {1, 0}, {1, 1073741825}, {1073741825, 1073741825}, {math.MaxUint32, math.MaxUint32}}
	wrongRates   = []uint64{1099511627777, 1 << 63, math.MaxUint64}
	wrongBursts  = []int64{math.MinInt64, -1, 0, 1073741825, math.MaxInt64}
)

// easy is a setup that refuses hardly anything: the limit is greater than what the tests send, and nothing is shaped.
func easy() api.Setup {
	return api.Setup{Packets: 1000, Bytes: 1073741824, Ring: 4096, Least: 1073741824, Most: 1073741824, Burst: 1}
}

// with is the easy setup with changes.
func with(change func(s *api.Setup)) api.Setup {
	s := easy()
	change(&s)
	return s
}

// pack is a packet of a number and bytes, with other fields that differ from one number to another.
func pack(id, length uint32) api.Packet {
	return api.Packet{Id: id, Len: length, Prio: int(id % 16), Cpu: int(id % 64), Flow: api.Flow{From: id * 31, To: ^id, Sport: uint16(id), Dport: 7, Proto: 6}}
}

// packs are packets of the numbers from one on, by their bytes.
func packs(from uint32, lengths ...uint32) []api.Packet {
	var l []api.Packet
	for i, length := range lengths {
		l = append(l, pack(from+uint32(i), length))
	}
	return l
}

// same are n packets of the numbers from one on, with the same bytes each.
func same(from uint32, n int, length uint32) []api.Packet {
	return packs(from, slices.Repeat([]uint32{length}, n)...)
}

// turned is packets in the opposite order, in memory of their own.
func turned(l []api.Packet) []api.Packet {
	l = slices.Clone(l)
	slices.Reverse(l)
	return l
}

// bytesOf is the bytes of packets.
func bytesOf(l []api.Packet) uint32 {
	n := uint32(0)
	for _, p := range l {
		n += p.Len
	}
	return n
}

// must is a new queue.
func must(t *testing.T, s api.Setup, now uint64) *Queue {
	t.Helper()
	q, code := New(s, now)
	if q == nil || code != api.OK {
		t.Fatalf("New(%v, %d) = %v, %d", s, now, q, code)
	}
	return q
}

// put puts packets, none of which may be refused.
func put(t *testing.T, q *Queue, l ...api.Packet) {
	t.Helper()
	for _, p := range l {
		if code := q.Put(p); code != api.OK {
			t.Fatalf("Put(%v) = %d", p, code)
		}
	}
}

// loaded is a new queue, at the time 0, into which packets are put.
func loaded(t *testing.T, s api.Setup, l ...api.Packet) *Queue {
	t.Helper()
	q := must(t, s, 0)
	put(t, q, l...)
	return q
}

// sends sends, and checks how many packets are posted.
func sends(t *testing.T, q *Queue, now uint64, budget, want int) {
	t.Helper()
	if n, code := q.Send(now, budget); n != want || code != api.OK {
		t.Fatalf("Send(%d, %d) = %d, %d, want %d", now, budget, n, code, want)
	}
}

// fetches lets the device fetch descriptors, which are to have these packets' Ids.
func fetches(t *testing.T, q *Queue, want ...api.Packet) {
	t.Helper()
	for _, w := range want {
		if id, code := q.Fetch(); id != w.Id || code != api.OK {
			t.Fatalf("Fetch() = %d, %d, want %d", id, code, w.Id)
		}
	}
}

// finishes lets the device finish descriptors, which are to have these packets' Ids.
func finishes(t *testing.T, q *Queue, want ...api.Packet) {
	t.Helper()
	for _, w := range want {
		if id, code := q.Finish(); id != w.Id || code != api.OK {
			t.Fatalf("Finish() = %d, %d, want %d", id, code, w.Id)
		}
	}
}

// serves lets the device fetch and finish packets.
func serves(t *testing.T, q *Queue, want ...api.Packet) {
	t.Helper()
	fetches(t, q, want...)
	finishes(t, q, want...)
}

// nothing checks that there is nothing to fetch and nothing to finish.
func nothing(t *testing.T, q *Queue) {
	t.Helper()
	if id, code := q.Fetch(); id != 0 || code != api.ErrEmpty {
		t.Fatalf("Fetch() = %d, %d with nothing to fetch", id, code)
	}
	if id, code := q.Finish(); id != 0 || code != api.ErrEmpty {
		t.Fatalf("Finish() = %d, %d with nothing to finish", id, code)
	}
}

// cleans cleans, and checks which packets left.
func cleans(t *testing.T, q *Queue, now uint64, budget int, want ...api.Packet) {
	t.Helper()
	if l, code := q.Clean(now, budget); !slices.Equal(l, want) || code != api.OK {
		t.Fatalf("Clean(%d, %d) = %v, %d, want %v", now, budget, l, code, want)
	}
}

// holds checks which packets wait and which are in flight.
func holds(t *testing.T, q *Queue, waiting, flight []api.Packet) {
	t.Helper()
	if l := q.Waiting(); !slices.Equal(l, waiting) {
		t.Fatalf("Waiting() = %v, want %v", l, waiting)
	}
	if l := q.Flight(); !slices.Equal(l, flight) {
		t.Fatalf("Flight() = %v, want %v", l, flight)
	}
}

// limitOf is the state of the byte limit.
func limitOf(q *Queue) api.Dql {
	d, _ := q.State()
	return d
}

// bucketOf is the bucket.
func bucketOf(q *Queue) api.Bucket {
	_, b := q.State()
	return b
}

// seen is all that a queue tells when nothing is changed.
type seen struct {
	waiting, flight []api.Packet
	limit           api.Dql
	bucket          api.Bucket
	marks           []uint32
	slots           []string
}

// look is what a queue tells, and what its ring does.
func look(q *Queue) seen {
	d, b := q.State()
	return seen{q.Waiting(), q.Flight(), d, b, q.parts.ring.Marks(), q.parts.ring.Slots()}
}

// unchanged checks that a queue tells what it told.
func unchanged(t *testing.T, q *Queue, was seen) {
	t.Helper()
	is := look(q)
	if !slices.Equal(is.waiting, was.waiting) || !slices.Equal(is.flight, was.flight) || is.limit != was.limit || is.bucket != was.bucket || !slices.Equal(is.marks, was.marks) || !slices.Equal(is.slots, was.slots) {
		t.Fatalf("changed to %v, was %v", is, was)
	}
}

// limit is a dql state that some calls made.
func limit(t *testing.T) func(d api.Dql, code api.Errno) api.Dql {
	return func(d api.Dql, code api.Errno) api.Dql {
		t.Helper()
		if code != api.OK {
			t.Fatalf("a byte limit: %d", code)
		}
		return d
	}
}

// P13.1: a new queue has nothing waiting and nothing in flight, and the states that New of the parts returns.
func TestNew(t *testing.T) {
	setups := []api.Setup{
		{Packets: 1, Bytes: 1, Ring: 1, Least: 1, Most: 1, Burst: 1},
		{Packets: 1000, Bytes: 1073741824, Ring: 4096, First: math.MaxUint32, Least: 1073741824, Most: 1073741824, Hold: math.MaxUint64, Rate: 1099511627776, Burst: 1073741824},
		{Packets: 8, Bytes: 1000, Ring: 2, First: 7, Least: 10, Most: 100, Hold: 5, Rate: 1000, Burst: 30},
	}
	for _, s := range setups {
		for _, now := range []uint64{0, 1, 5000000000, math.MaxInt64} {
			q := must(t, s, now)
			holds(t, q, nil, nil)
			d, b := q.State()
			if d != (api.Dql{Limit: s.Least, Adj: s.Least, Slack: math.MaxUint32, Start: now, Hold: s.Hold, Min: s.Least, Max: s.Most}) {
				t.Errorf("the byte limit of %v at %d: %v", s, now, d)
			}
			if b != (api.Bucket{Rate: s.Rate, Burst: s.Burst, Level: s.Burst, At: now}) {
				t.Errorf("the bucket of %v at %d: %v", s, now, b)
			}
			nothing(t, q)
			cleans(t, q, now, 1)
			if m := q.parts.ring.Marks(); !slices.Equal(m, slices.Repeat([]uint32{s.First}, 5)) {
				t.Errorf("the ring's indexes of %v: %v", s, m)
			}
		}
	}
}

// P13.1: New is refused where New of any part is, and where that of several is.
func TestNewWrong(t *testing.T) {
	refused := func(s api.Setup, now uint64) {
		t.Helper()
		if q, code := New(s, now); q != nil || code != api.ErrArg {
			t.Errorf("New(%v, %d) = %v, %d", s, now, q, code)
		}
	}
	refused(api.Setup{}, 0)
	refused(api.Setup{Packets: -1, Bytes: -1, Ring: -1, Least: 1, Rate: math.MaxUint64, Burst: -1}, math.MaxUint64)
	for _, n := range wrongPackets {
		refused(with(func(s *api.Setup) { s.Packets = n }), 0)
	}
	for _, n := range wrongBytes {
		refused(with(func(s *api.Setup) { s.Bytes = n }), 0)
	}
	for _, n := range wrongRings {
		refused(with(func(s *api.Setup) { s.Ring = n }), 0)
	}
	for _, l := range wrongLimits {
		refused(with(func(s *api.Setup) { s.Least, s.Most = l[0], l[1] }), 0)
	}
	for _, n := range wrongRates {
		refused(with(func(s *api.Setup) { s.Rate = n }), 0)
	}
	for _, n := range wrongBursts {
		refused(with(func(s *api.Setup) { s.Burst = n }), 0)
	}
	for _, now := range []uint64{math.MaxInt64 + 1, math.MaxUint64} { // no time of a bucket
		refused(easy(), now)
	}
}

// P13.1: two queues of one setup have nothing in common.
func TestNewApart(t *testing.T) {
	s := with(func(s *api.Setup) { s.Rate, s.Burst, s.Ring, s.Least = 1000, 30, 2, 10 })
	a, b := must(t, s, 0), must(t, s, 0)
	at := look(b)
	l := packs(1, 20, 20, 20)
	put(t, a, l...)
	sends(t, a, 7, 9, 1)
	unchanged(t, b, at)
	put(t, b, pack(9, 5))
	sends(t, b, 0, 1, 1)
	serves(t, a, l[0])
	cleans(t, a, 8, 9, l[0])
	if code := a.SetRate(5, 6, 9); code != api.OK {
		t.Error(code)
	}
	if _, code := a.SetLimits(1, 100); code != api.OK {
		t.Error(code)
	}
	holds(t, a, l[1:2], nil)
	holds(t, b, nil, []api.Packet{pack(9, 5)})
	serves(t, b, pack(9, 5))
	cleans(t, b, 0, 1, pack(9, 5))
	if got := bucketOf(b); got != (api.Bucket{Rate: 1000, Burst: 30, Level: 25}) {
		t.Errorf("the bucket of the other queue: %v", got)
	}
}

// P13.1: the document's example.
func TestSendExample(t *testing.T) {
	l := packs(1, 6, 6, 6)
	q := loaded(t, with(func(s *api.Setup) { s.Ring, s.Least, s.Most = 2, 10, 10 }), l...)
	sends(t, q, 0, 9, 2)
	holds(t, q, l[2:], l[:2])
}

// P13.1: Put takes what the fifo takes: at its most packets and at its most bytes, and no further; a wrong Len comes first.
func TestPut(t *testing.T) {
	q := must(t, with(func(s *api.Setup) { s.Packets, s.Bytes = 2, 10 }), 0)
	refused := func(want api.Errno, lengths ...uint32) {
		t.Helper()
		was := look(q)
		for _, n := range lengths {
			if code := q.Put(pack(99, n)); code != want {
				t.Errorf("Put of %d bytes = %d, want %d", n, code, want)
			}
			unchanged(t, q, was)
		}
	}
	refused(api.ErrArg, wrongLens...)
	refused(api.ErrBytes, 11, 65535)
	put(t, q, pack(1, 6))
	refused(api.ErrBytes, 5, 65535)
	put(t, q, pack(2, 4))
	refused(api.ErrMany, 1, 65535)
	refused(api.ErrArg, wrongLens...)
	holds(t, q, packs(1, 6, 4), nil)
	sends(t, q, 0, 1, 1)
	refused(api.ErrBytes, 7)
	put(t, q, pack(3, 6)) // what is in flight does not wait
	holds(t, q, packs(2, 4, 6), packs(1, 6))
}

// P13.1: the fifo holds its greatest number of packets, and no further one.
func TestPutMost(t *testing.T) {
	l := same(1, 1000, 65535)
	q := loaded(t, easy(), l...)
	if code := q.Put(pack(5000, 1)); code != api.ErrMany {
		t.Errorf("one packet too many: %d", code)
	}
	holds(t, q, l, nil)
	sends(t, q, 0, 1000, 1000)
	put(t, q, l...)
	holds(t, q, l, l)
}

// P13.1: fields of a packet that no part looks at are kept as they are.
func TestOtherFields(t *testing.T) {
	l := []api.Packet{
		{Len: 1},
		{Id: math.MaxUint32, Len: 65535, Prio: math.MinInt, Cpu: math.MaxInt, Flow: api.Flow{From: math.MaxUint32, To: math.MaxUint32, Sport: 65535, Dport: 65535, Proto: 255}},
		{Len: 1},
	}
	q := loaded(t, easy(), l...)
	holds(t, q, l, nil)
	sends(t, q, 0, 3, 3)
	holds(t, q, nil, l)
	serves(t, q, l...)
	cleans(t, q, 0, 3, l...)
}

// P13.1: what is posted is the packet's Id and Len, and From of its Flow; the bell is rung.
func TestSendPosts(t *testing.T) {
	l := packs(1, 6, 65535, 1)
	q := loaded(t, with(func(s *api.Setup) { s.First = math.MaxUint32 }), l...)
	sends(t, q, 0, 3, 3)
	if m := q.parts.ring.Marks(); !slices.Equal(m, []uint32{math.MaxUint32, math.MaxUint32, math.MaxUint32, 2, 2}) {
		t.Errorf("the ring's indexes are %v", m)
	}
	for _, p := range l {
		d, code := q.parts.ring.Fetch()
		if d != (api.Desc{Id: p.Id, Len: p.Len, Flow: p.Flow.From}) || code != api.OK {
			t.Errorf("posted %v, %d for %v", d, code, p)
		}
	}
	d := limitOf(q)
	if d.Queued != 65542 || d.Last != 1 || d.Completed != 0 {
		t.Errorf("the byte limit is %v", d)
	}
}

// P13.1: no more packets are posted than the budget, from the least one to the greatest.
func TestSendBudget(t *testing.T) {
	l := same(0, 1000, 3)
	q := loaded(t, easy(), l...)
	posted := 0
	for _, budget := range []int{1, 1, 2, 5, 90, 1} {
		sends(t, q, 0, budget, budget)
		posted += budget
		holds(t, q, l[posted:], l[:posted])
	}
	sends(t, q, 0, 1000, 900) // as many as wait
	holds(t, q, nil, l)
	put(t, q, same(2000, 1000, 1)...)
	sends(t, q, 0, 999, 999)
	holds(t, q, same(2999, 1, 1), append(l, same(2000, 999, 1)...))
	put(t, q, same(3000, 999, 1)...)
	sends(t, q, 0, 1000, 1000)
	sends(t, q, 0, 1000, 0)
}

// P13.1: with the last packet of the budget, nothing more is asked: the bucket pays for what is posted alone.
func TestSendBudgetPays(t *testing.T) {
	q := loaded(t, with(func(s *api.Setup) { s.Rate, s.Burst = 1, 100 }), packs(1, 10, 20, 30)...)
	sends(t, q, 0, 2, 2)
	if b := bucketOf(q); b.Level != 70 {
		t.Errorf("the level is %d", b.Level)
	}
}

// P13.1: wrong budgets and times are refused, the budget first, and nothing is changed.
func TestSendWrong(t *testing.T) {
	q := must(t, with(func(s *api.Setup) { s.Rate, s.Burst = 1000, 10 }), 100)
	put(t, q, packs(1, 30, 30)...)
	sends(t, q, 100, 1, 1)
	was := look(q)
	refused := func(now uint64, budget int, want api.Errno) {
		t.Helper()
		if n, code := q.Send(now, budget); n != 0 || code != want {
			t.Errorf("Send(%d, %d) = %d, %d, want %d", now, budget, n, code, want)
		}
		unchanged(t, q, was)
	}
	times := []uint64{0, 99, math.MaxInt64 + 1, math.MaxUint64}
	for _, budget := range wrongBudgets {
		for _, now := range append(times, 100, 5000000000) {
			refused(now, budget, api.ErrBudget)
		}
	}
	for _, now := range times {
		refused(now, 1, api.ErrTime)
		refused(now, 1000, api.ErrTime)
	}
	sends(t, q, 21000100, 1, 1)
}

// P13.1: a time that goes back is refused where nothing waits and where nothing is shaped, too; the same time is not.
func TestSendTime(t *testing.T) {
	q := must(t, easy(), 7)
	sends(t, q, 9, 1, 0)
	if n, code := q.Send(8, 1); n != 0 || code != api.ErrTime {
		t.Errorf("Send at an earlier time = %d, %d", n, code)
	}
	sends(t, q, 9, 1, 0)
	sends(t, q, math.MaxInt64, 1, 0)
	put(t, q, pack(1, 1))
	if n, code := q.Send(math.MaxInt64-1, 1); n != 0 || code != api.ErrTime {
		t.Errorf("Send at an earlier time = %d, %d", n, code)
	}
	sends(t, q, math.MaxInt64, 1, 1)
}

// P13.1: Send that posts none fills the bucket up to the time all the same, and rings no bell, whichever condition fails.
func TestSendNone(t *testing.T) {
	shaped := func(s *api.Setup) { s.Rate, s.Burst = 1000, 50 }
	empty := loaded(t, with(shaped), pack(1, 45))
	sends(t, empty, 0, 1, 1)
	spent := loaded(t, with(func(s *api.Setup) { shaped(s); s.Least = 45 }), packs(1, 45, 45)...)
	sends(t, spent, 0, 9, 1)
	full := loaded(t, with(func(s *api.Setup) { shaped(s); s.Ring = 1 }), packs(1, 45, 45)...)
	sends(t, full, 0, 9, 1)
	for name, q := range map[string]*Queue{"nothing waits": empty, "no bytes are left": spent, "the ring is full": full} {
		was := look(q)
		sends(t, q, 20500000, 9, 0)
		if b := bucketOf(q); b != (api.Bucket{Rate: 1000, Burst: 50, Level: 25, Rem: 500000000, At: 20500000}) {
			t.Errorf("%s: the bucket is %v", name, b)
		}
		sends(t, q, 21000000, 9, 0)
		was.bucket = api.Bucket{Rate: 1000, Burst: 50, Level: 26, At: 21000000}
		unchanged(t, q, was) // the bucket pays for nothing that is not posted
	}
	owing := loaded(t, with(shaped), packs(1, 75, 75)...)
	sends(t, owing, 0, 9, 1)
	was := look(owing)
	sends(t, owing, 10000000, 9, 0)
	was.bucket = api.Bucket{Rate: 1000, Burst: 50, Level: -15, At: 10000000}
	unchanged(t, owing, was)
}

// P13.1: the bell is rung behind the posting alone: what was posted by hand is not shown by a Send that posts none.
func TestSendBell(t *testing.T) {
	q := must(t, easy(), 0)
	if code := q.parts.ring.Post(api.Desc{Id: 1, Len: 1}); code != api.OK {
		t.Fatal(code)
	}
	sends(t, q, 0, 9, 0)
	if id, code := q.Fetch(); id != 0 || code != api.ErrEmpty {
		t.Errorf("Fetch() = %d, %d", id, code)
	}
}

// P13.1: packets are posted as long as a byte is left, the one that goes beyond the limit too, and none where nothing is left.
func TestSendLeft(t *testing.T) {
	cases := []struct {
		lengths []uint32
		want    int
	}{
		{[]uint32{10, 1}, 1},          // just nothing is left
		{[]uint32{9, 1, 1}, 2},        // one byte is left, and taken
		{[]uint32{9, 65535, 1}, 2},    // one byte is left, and a packet goes beyond
		{[]uint32{11, 1}, 1},          // beyond at once
		{[]uint32{65535, 65535}, 1},   // far beyond
		{[]uint32{1, 1, 1, 1, 1}, 5},  // all are within
		{[]uint32{4, 3, 2, 1, 65}, 4}, // the last one just fits
	}
	for _, c := range cases {
		l := packs(1, c.lengths...)
		q := loaded(t, with(func(s *api.Setup) { s.Least = 10 }), l...)
		sends(t, q, 0, 9, c.want)
		holds(t, q, l[c.want:], l[:c.want])
		sends(t, q, 1, 9, 0)
	}
}

// P13.1: no more is posted than the ring has slots, in the smallest and in the greatest one.
func TestSendRing(t *testing.T) {
	for _, size := range []int{1, 2, 64, 4096} {
		for _, first := range []uint32{0, 5, math.MaxUint32 - 2, math.MaxUint32} {
			q := must(t, with(func(s *api.Setup) { s.Ring, s.First = size, first }), 0)
			var flight []api.Packet
			for len(flight) < size {
				l := same(uint32(len(flight)), min(1000, size-len(flight)), 1)
				put(t, q, l...)
				sends(t, q, 0, 1000, len(l))
				flight = append(flight, l...)
			}
			put(t, q, packs(10000, 1, 1)...)
			sends(t, q, 0, 1000, 0)
			holds(t, q, packs(10000, 1, 1), flight)
			serves(t, q, flight[0])
			sends(t, q, 0, 1000, 0) // finished is not cleaned
			cleans(t, q, 0, 9, flight[0])
			sends(t, q, 0, 1000, 1)
			holds(t, q, packs(10001, 1), append(flight[1:], pack(10000, 1)))
		}
	}
}

// P13.1: a bucket that is just empty, or owes, allows none; one that is filled again by the time of Send does, from its first nanosecond on.
func TestSendBucket(t *testing.T) {
	s := with(func(s *api.Setup) { s.Rate, s.Burst = 1000, 10 })
	q := loaded(t, s, packs(1, 10, 1)...)
	sends(t, q, 0, 9, 1) // the level is 0
	sends(t, q, 0, 9, 0)
	sends(t, q, 999999, 9, 0)
	sends(t, q, 1000000, 9, 1)
	if b := bucketOf(q); b != (api.Bucket{Rate: 1000, Burst: 10, At: 1000000}) {
		t.Errorf("the bucket is %v", b)
	}
	q = loaded(t, s, packs(1, 30, 2, 3)...)
	sends(t, q, 0, 9, 1) // it owes 20
	for _, now := range []uint64{0, 1, 20000000, 20500000, 20999999} {
		sends(t, q, now, 9, 0)
	}
	sends(t, q, 21000000, 9, 1)
	if b := bucketOf(q); b != (api.Bucket{Rate: 1000, Burst: 10, Level: -1, At: 21000000}) {
		t.Errorf("the bucket is %v", b)
	}
	q = loaded(t, s, packs(1, 1, 2, 6, 65535, 1)...)
	sends(t, q, 0, 9, 4) // one is left when the last one is taken
	if b := bucketOf(q); b.Level != -65534 {
		t.Errorf("the level is %d", b.Level)
	}
}

// P13.1: a bucket with rate 0 allows all, and pays nothing.
func TestSendUnshaped(t *testing.T) {
	l := same(1, 1000, 65535)
	q := loaded(t, easy(), l...)
	sends(t, q, 5, 1000, 1000)
	if b := bucketOf(q); b != (api.Bucket{Burst: 1, Level: 1, At: 5}) {
		t.Errorf("the bucket is %v", b)
	}
}

// P13.1: the bucket is asked last: where another condition fails within a Send, it pays for what was posted alone, whether it would allow the packet or not.
func TestSendOrder(t *testing.T) {
	setups := map[string]api.Setup{
		"no bytes are left":  with(func(s *api.Setup) { s.Least = 20 }),
		"the ring is full":   with(func(s *api.Setup) { s.Ring = 2 }),
		"both":               with(func(s *api.Setup) { s.Least, s.Ring = 20, 2 }),
		"nothing more waits": easy(),
	}
	for name, s := range setups {
		for _, burst := range []int64{11, 19, 20, 21, 30, 1000} {
			s.Rate, s.Burst = 1, burst
			l := packs(1, 10, 10, 10)
			if name == "nothing more waits" {
				l = l[:2]
			}
			q := loaded(t, s, l...)
			sends(t, q, 0, 9, 2)
			if b := bucketOf(q); b.Level != burst-20 {
				t.Errorf("%s: the level is %d of %d", name, b.Level, burst)
			}
			if d := limitOf(q); dql.Flight(d) != 20 || d.Last != 10 {
				t.Errorf("%s: the byte limit is %v", name, d)
			}
			holds(t, q, l[2:], l[:2])
			sends(t, q, 0, 9, 0)
			if b := bucketOf(q); b.Level != burst-20 {
				t.Errorf("%s: the level is %d of %d behind a second Send", name, b.Level, burst)
			}
		}
	}
}

// P13.1: Send on an empty fifo posts none, at first and when all was sent.
func TestSendEmpty(t *testing.T) {
	q := must(t, easy(), 0)
	was := look(q)
	sends(t, q, 0, 1, 0)
	sends(t, q, 0, 1000, 0)
	unchanged(t, q, was)
	nothing(t, q)
	put(t, q, pack(1, 1))
	sends(t, q, 0, 1, 1)
	sends(t, q, 0, 1, 0)
	fetches(t, q, pack(1, 1))
	if id, code := q.Fetch(); id != 0 || code != api.ErrEmpty {
		t.Errorf("Fetch() = %d, %d", id, code)
	}
}

// P13.2: the device fetches and finishes in turn what was posted, and not what waits; where there is nothing to do, it changes nothing.
func TestFetchFinish(t *testing.T) {
	l := packs(7, 5, 5, 5, 5)
	q := loaded(t, easy(), l...)
	nothing(t, q)
	holds(t, q, l, nil)
	sends(t, q, 0, 3, 3)
	if id, code := q.Finish(); id != 0 || code != api.ErrEmpty {
		t.Errorf("Finish() = %d, %d ahead of Fetch", id, code)
	}
	fetches(t, q, l[0])
	finishes(t, q, l[0])
	if id, code := q.Finish(); id != 0 || code != api.ErrEmpty {
		t.Errorf("Finish() = %d, %d again", id, code)
	}
	fetches(t, q, l[1], l[2])
	if id, code := q.Fetch(); id != 0 || code != api.ErrEmpty {
		t.Errorf("Fetch() = %d, %d of what waits", id, code)
	}
	finishes(t, q, l[1])
	holds(t, q, l[3:], l[:3]) // neither changes what is in flight
	sends(t, q, 0, 3, 1)
	fetches(t, q, l[3])
	finishes(t, q, l[2], l[3])
	was := look(q)
	nothing(t, q)
	unchanged(t, q, was)
	cleans(t, q, 0, 9, l...)
	nothing(t, q)
}

// P13.2: neither the fifo, nor the byte limit, nor the bucket is changed by the device.
func TestFetchFinishStates(t *testing.T) {
	l := packs(1, 60, 20, 30)
	q := loaded(t, with(func(s *api.Setup) { s.Rate, s.Burst, s.Least = 1000, 70, 70 }), l...)
	sends(t, q, 0, 2, 2)
	was := look(q)
	serves(t, q, l[:2]...)
	is := look(q)
	if is.limit != was.limit || is.bucket != was.bucket {
		t.Errorf("%v, %v, was %v, %v", is.limit, is.bucket, was.limit, was.bucket)
	}
	holds(t, q, l[2:], l[:2])
}

// P13.2: Clean with nothing finished removes nothing and changes nothing, not even the dql state, whatever the time.
func TestCleanNothing(t *testing.T) {
	l := packs(1, 30, 30)
	q := loaded(t, with(func(s *api.Setup) { s.Least, s.Most = 10, 100 }), l...)
	none := func() {
		t.Helper()
		was := look(q)
		for _, now := range []uint64{0, 5, math.MaxInt64, math.MaxUint64} {
			for _, budget := range []int{1, 9, 1000} {
				cleans(t, q, now, budget)
				unchanged(t, q, was)
			}
		}
	}
	none()
	sends(t, q, 3, 9, 1)
	none()
	fetches(t, q, l[0])
	none()
	finishes(t, q, l[0])
	cleans(t, q, 4, 9, l[0])
	none()
	holds(t, q, l[1:], nil)
}

// P13.2: Clean takes fewer than the budget, as many, and more than one budget's packets in several calls.
func TestCleanBudget(t *testing.T) {
	l := same(1, 1000, 9)
	for _, c := range []struct{ finished, budget, want int }{
		{1, 1, 1}, {2, 1, 1}, {1, 2, 1}, {3, 3, 3}, {4, 3, 3}, {3, 4, 3}, {999, 1000, 999}, {1000, 1000, 1000}, {1000, 999, 999}, {1000, 1, 1},
	} {
		q := loaded(t, easy(), l...)
		sends(t, q, 0, 1000, 1000)
		fetches(t, q, l...)
		finishes(t, q, l[:c.finished]...)
		cleans(t, q, 0, c.budget, l[:c.want]...)
		holds(t, q, nil, l[c.want:])
		if d := limitOf(q); d.Completed != bytesOf(l[:c.want]) {
			t.Errorf("%v: %d bytes are completed", c, d.Completed)
		}
		for done := c.want; done < c.finished; {
			n := min(c.budget, c.finished-done)
			cleans(t, q, 0, c.budget, l[done:done+n]...)
			done += n
		}
		cleans(t, q, 0, 1000)
		holds(t, q, nil, l[c.finished:])
	}
	q := must(t, easy(), 0)
	for range 2 {
		put(t, q, l...)
		sends(t, q, 0, 1000, 1000)
	}
	serves(t, q, append(l, l...)...)
	cleans(t, q, 0, 1000, l...)
	holds(t, q, nil, l)
	cleans(t, q, 0, 1000, l...)
	cleans(t, q, 0, 1000)
}

// P13.2: wrong budgets are refused, and nothing is changed.
func TestCleanWrong(t *testing.T) {
	l := packs(1, 30, 30)
	q := loaded(t, easy(), l...)
	sends(t, q, 0, 9, 2)
	serves(t, q, l...)
	was := look(q)
	for _, budget := range wrongBudgets {
		for _, now := range []uint64{0, 5, math.MaxUint64} {
			if got, code := q.Clean(now, budget); len(got) != 0 || code != api.ErrBudget {
				t.Errorf("Clean(%d, %d) = %v, %d", now, budget, got, code)
			}
			unchanged(t, q, was)
		}
	}
	cleans(t, q, 0, 9, l...)
}

// P13.2: Clean takes any time, also one that is earlier than that of Send or that no bucket has; the bucket is not filled.
func TestCleanTime(t *testing.T) {
	for _, now := range []uint64{0, 99, math.MaxInt64 + 1, math.MaxUint64} {
		l := packs(1, 30)
		q := must(t, with(func(s *api.Setup) { s.Rate, s.Burst, s.Least = 1000, 50, 10 }), 100)
		put(t, q, l...)
		sends(t, q, 100, 9, 1)
		serves(t, q, l...)
		was := bucketOf(q)
		cleans(t, q, now, 9, l...)
		if d := limitOf(q); d.Start != now || d.Limit != 40 {
			t.Errorf("cleaned at %d: the byte limit is %v", now, d)
		}
		if b := bucketOf(q); b != was {
			t.Errorf("cleaned at %d: the bucket is %v", now, b)
		}
	}
}

// P13.2: the bytes of all that one Clean takes are completed at once, not one packet's behind another's.
func TestCleanAtOnce(t *testing.T) {
	l := packs(1, 4, 5, 65535)
	q := loaded(t, with(func(s *api.Setup) { s.Least, s.Most = 10, 1000000 }), l...)
	sends(t, q, 0, 9, 3)
	serves(t, q, l...)
	cleans(t, q, 6, 9, l...)
	made := limit(t)
	d := made(dql.New(10, 1000000, 0, 0))
	for _, p := range l {
		d = made(dql.Queue(d, p.Len))
	}
	d = made(dql.Complete(d, 65544, 6))
	if got := limitOf(q); got != d {
		t.Errorf("the byte limit is %v, want %v", got, d)
	}
}

// P13.2: the limit goes up behind Clean where the device ran out of bytes that were beyond it, so more is posted; it goes down where the device stays busy, so less is.
func TestCleanLimit(t *testing.T) {
	l := append(packs(1, 10, 100), same(3, 20, 10)...)
	q := loaded(t, with(func(s *api.Setup) { s.Least, s.Most, s.Hold = 10, 1000, 5 }), l...)
	limits := func(want uint32) {
		t.Helper()
		if d := limitOf(q); d.Limit != want {
			t.Fatalf("the limit is %d, want %d", d.Limit, want)
		}
	}
	turn := func(now uint64, posted int, limit uint32, cleaned ...api.Packet) {
		t.Helper()
		sends(t, q, now, 1000, posted)
		serves(t, q, cleaned...)
		cleans(t, q, now, 9, cleaned...)
		limits(limit)
	}
	turn(0, 1, 10, l[0])
	turn(1, 1, 110, l[1])  // 90 bytes beyond the limit of 10, and all were used up: it becomes 10 and what was completed
	turn(3, 11, 110, l[2]) // eleven packets of 10 bytes
	turn(4, 1, 110, l[3])  // 90 are slack, but were not held for long enough
	turn(7, 1, 20, l[4])
	sends(t, q, 8, 1000, 0)
	holds(t, q, l[15:], l[5:15])
	fetches(t, q, l[5:15]...)
	finishes(t, q, l[5:14]...)
	cleans(t, q, 8, 1000, l[5:14]...)
	limits(20)
	sends(t, q, 8, 1000, 1)
	holds(t, q, l[16:], l[14:16])
}

// P13.3: SetRate fills the bucket up to the time at the old rate, and the new rate and burst hold from then on.
func TestSetRate(t *testing.T) {
	q := loaded(t, with(func(s *api.Setup) { s.Rate, s.Burst = 1000, 10 }), packs(1, 30, 9, 4)...)
	sets := func(rate uint64, burst int64, now uint64, want api.Bucket) {
		t.Helper()
		was := look(q)
		if code := q.SetRate(rate, burst, now); code != api.OK {
			t.Fatalf("SetRate(%d, %d, %d) = %d", rate, burst, now, code)
		}
		was.bucket = want
		unchanged(t, q, was)
	}
	sends(t, q, 0, 9, 1) // the level is -20
	sets(2000, 5, 10500000, api.Bucket{Rate: 2000, Burst: 5, Level: -10, At: 10500000})
	sends(t, q, 15500000-1, 9, 0)
	sends(t, q, 15500000+499999, 9, 0)
	sends(t, q, 16000000, 9, 1) // 11 bytes in five and a half milliseconds
	if b := bucketOf(q); b != (api.Bucket{Rate: 2000, Burst: 5, Level: -8, At: 16000000}) {
		t.Errorf("the bucket is %v", b)
	}
	sets(0, 7, 16000000, api.Bucket{Burst: 7, Level: -8, At: 16000000})
	sends(t, q, 16000000, 9, 1) // not shaped any more
	if b := bucketOf(q); b != (api.Bucket{Burst: 7, Level: 7, At: 16000000}) {
		t.Errorf("the bucket is %v", b)
	}
	sets(1099511627776, 1073741824, 17000000, api.Bucket{Rate: 1099511627776, Burst: 1073741824, Level: 7, At: 17000000})
	sets(1, 1, math.MaxInt64, api.Bucket{Rate: 1, Burst: 1, Level: 1, At: math.MaxInt64})
}

// P13.3: SetRate is refused for a time that goes back, then for a rate and a burst that may not be, and nothing is changed.
func TestSetRateWrong(t *testing.T) {
	q := must(t, with(func(s *api.Setup) { s.Rate, s.Burst = 1000, 10 }), 100)
	put(t, q, packs(1, 30, 30)...)
	sends(t, q, 100, 9, 1)
	was := look(q)
	refused := func(rate uint64, burst int64, now uint64, want api.Errno) {
		t.Helper()
		if code := q.SetRate(rate, burst, now); code != want {
			t.Errorf("SetRate(%d, %d, %d) = %d, want %d", rate, burst, now, code, want)
		}
		unchanged(t, q, was)
	}
	for _, now := range []uint64{0, 99, math.MaxInt64 + 1, math.MaxUint64} {
		refused(1000, 10, now, api.ErrTime)
		refused(0, 1, now, api.ErrTime)
		for _, rate := range wrongRates {
			refused(rate, 0, now, api.ErrTime)
		}
	}
	for _, now := range []uint64{100, 101, 5000000000, math.MaxInt64} {
		for _, rate := range wrongRates {
			refused(rate, 10, now, api.ErrArg)
		}
		for _, burst := range wrongBursts {
			refused(0, burst, now, api.ErrArg)
			refused(1099511627776, burst, now, api.ErrArg)
		}
	}
	if code := q.SetRate(1099511627776, 1073741824, 100); code != api.OK {
		t.Errorf("SetRate = %d", code)
	}
}

// P13.3: SetLimits to fewer packets or bytes than wait removes from the end, the last one first; what is in flight stays.
func TestSetLimits(t *testing.T) {
	l := packs(1, 10, 20, 30, 40, 50)
	cases := []struct {
		packets, bytes, kept int // of the four that wait
	}{
		{1000, 1073741824, 4}, {4, 140, 4}, {3, 140, 3}, {1, 1000, 1}, {4, 139, 3}, {4, 90, 3}, {4, 89, 2}, {4, 20, 1}, {4, 19, 0}, {1, 1, 0}, {2, 90, 2},
	}
	for _, c := range cases {
		q := loaded(t, easy(), l...)
		sends(t, q, 0, 1, 1)
		d, b := q.State()
		if got, code := q.SetLimits(c.packets, c.bytes); !slices.Equal(got, turned(l[1+c.kept:])) || code != api.OK {
			t.Errorf("SetLimits(%d, %d) = %v, %d", c.packets, c.bytes, got, code)
		}
		holds(t, q, l[1:1+c.kept], l[:1])
		if e, f := q.State(); d != e || b != f {
			t.Errorf("SetLimits(%d, %d) changed the states", c.packets, c.bytes)
		}
		want := api.OK
		switch room := c.bytes - int(bytesOf(l[1:1+c.kept])); {
		case c.kept == c.packets:
			want = api.ErrMany
		case room < 60:
			want = api.ErrBytes
		}
		if code := q.Put(pack(9, 60)); code != want {
			t.Errorf("Put behind SetLimits(%d, %d) = %d, want %d", c.packets, c.bytes, code, want)
		}
		serves(t, q, l[0])
		cleans(t, q, 0, 9, l[0])
	}
}

// P13.3: SetLimits is refused for limits that may not be, and nothing is changed.
func TestSetLimitsWrong(t *testing.T) {
	q := loaded(t, easy(), packs(1, 10, 20, 30)...)
	sends(t, q, 0, 1, 1)
	was := look(q)
	refused := func(packets, bytes int) {
		t.Helper()
		if l, code := q.SetLimits(packets, bytes); len(l) != 0 || code != api.ErrArg {
			t.Errorf("SetLimits(%d, %d) = %v, %d", packets, bytes, l, code)
		}
		unchanged(t, q, was)
	}
	for _, packets := range wrongPackets {
		refused(packets, 1)
		refused(packets, 1073741824)
		for _, bytes := range wrongBytes {
			refused(packets, bytes)
		}
	}
	for _, bytes := range wrongBytes {
		refused(1, bytes)
		refused(1000, bytes)
	}
	put(t, q, same(10, 998, 65535)...) // the limits are those of before
}

// pulls pulls the packets of some numbers, and checks what was pulled, and that each was asked about once, in order.
func pulls(t *testing.T, q *Queue, ids ...uint32) {
	t.Helper()
	var about, pulled, kept []api.Packet
	was := look(q)
	got := q.Pull(func(p api.Packet) bool {
		about = append(about, p)
		return slices.Contains(ids, p.Id)
	})
	for _, p := range was.waiting {
		if slices.Contains(ids, p.Id) {
			pulled = append(pulled, p)
		} else {
			kept = append(kept, p)
		}
	}
	if !slices.Equal(about, was.waiting) {
		t.Errorf("asked about %v, want %v", about, was.waiting)
	}
	if !slices.Equal(got, pulled) {
		t.Errorf("pulled %v, want %v", got, pulled)
	}
	was.waiting = kept
	unchanged(t, q, was)
}

// P13.3: Pull takes none, all, the first, the last, some between, and leaves the others in their order.
func TestPull(t *testing.T) {
	for _, ids := range [][]uint32{{}, {1}, {2}, {3, 4, 5, 6, 7, 8}, {3}, {8}, {4, 5}, {3, 5, 7}, {4, 6, 8}, {3, 8}, {8, 3, 5}} { // 1 and 2 are in flight
		q := loaded(t, easy(), packs(1, 9, 8, 7, 6, 5, 4, 3, 2)...)
		sends(t, q, 0, 2, 2)
		pulls(t, q, ids...)
		pulls(t, q, ids...)
		rest := q.Waiting()
		put(t, q, pack(20, 100))
		holds(t, q, append(rest, pack(20, 100)), packs(1, 9, 8))
		sends(t, q, 0, 1000, len(rest)+1)
		holds(t, q, nil, append(packs(1, 9, 8), append(rest, pack(20, 100))...))
	}
}

// P13.3: the document's example.
func TestPullExample(t *testing.T) {
	var all, ones, others []api.Packet
	for id := range uint32(12) {
		p := api.Packet{Id: id, Len: 5, Prio: int(id * id % 3)}
		all = append(all, p)
		if p.Prio == 1 {
			ones = append(ones, p)
		} else {
			others = append(others, p)
		}
	}
	q := loaded(t, easy(), all...)
	if l := q.Pull(func(p api.Packet) bool { return p.Prio == 1 }); !slices.Equal(l, ones) {
		t.Errorf("pulled %v", l)
	}
	holds(t, q, others, nil)
}

// P13.3: packets that are alike in all are asked about one by one.
func TestPullAlike(t *testing.T) {
	p := pack(5, 10)
	q := loaded(t, easy(), p, p, p, p, p)
	n := 0
	if l := q.Pull(func(api.Packet) bool { n++; return n%2 == 0 }); !slices.Equal(l, []api.Packet{p, p}) {
		t.Errorf("pulled %v", l)
	}
	holds(t, q, []api.Packet{p, p, p}, nil)
	if n != 5 {
		t.Errorf("asked %d times", n)
	}
}

// P13.3: Pull of a fifo that is full, by packets and by bytes, keeps the others, and makes room for as many as it took.
func TestPullFull(t *testing.T) {
	q := loaded(t, with(func(s *api.Setup) { s.Bytes = 3000 }), same(1, 1000, 3)...)
	pulls(t, q)
	if code := q.Put(pack(2000, 1)); code != api.ErrMany {
		t.Errorf("Put = %d", code)
	}
	pulls(t, q, 1, 500, 1000)
	if code := q.Put(pack(2000, 10)); code != api.ErrBytes {
		t.Errorf("Put = %d", code)
	}
	put(t, q, pack(2000, 7), pack(2001, 1), pack(2002, 1))
	if code := q.Put(pack(2003, 1)); code != api.ErrMany {
		t.Errorf("Put = %d", code)
	}
	pulls(t, q, 2001)
	pulls(t, q, 2, 999)
}

// P13.3: nobody is asked about where nothing waits, and a function that there is not asks for none.
func TestPullNothing(t *testing.T) {
	q := must(t, easy(), 0)
	pulls(t, q)
	put(t, q, pack(1, 1), pack(2, 1))
	was := look(q)
	if l := q.Pull(nil); len(l) != 0 {
		t.Errorf("Pull(nil) = %v", l)
	}
	unchanged(t, q, was)
	sends(t, q, 0, 9, 2)
	pulls(t, q, 1, 2)
}

// P13.3: while it is asked, all packets still wait, so a function may look at the queue, and one that panics has changed nothing.
func TestPullAsks(t *testing.T) {
	l := packs(1, 5, 6, 7)
	q := loaded(t, easy(), l...)
	was := look(q)
	func() {
		defer func() {
			if recover() == nil {
				t.Error("the function's panic is lost")
			}
		}()
		q.Pull(func(p api.Packet) bool {
			unchanged(t, q, was)
			if p.Id == 3 {
				panic(p)
			}
			return true
		})
	}()
	unchanged(t, q, was)
}

// P13.3: what a caller does to slices that were returned changes nothing in the queue, nor do they share anything.
func TestReturnedSlices(t *testing.T) {
	l := same(1, 20, 10)
	q := loaded(t, easy(), l...)
	sends(t, q, 0, 10, 10)
	serves(t, q, l[:4]...)
	spoil := func(s []api.Packet) {
		for i := range s[:cap(s)] {
			s[:cap(s)][i] = pack(666, 666)
		}
	}
	spoil(q.Waiting())
	spoil(q.Flight())
	holds(t, q, l[10:], l[:10])
	cleaned, _ := q.Clean(0, 3)
	spoil(cleaned)
	holds(t, q, l[10:], l[3:10])
	pulled := q.Pull(func(p api.Packet) bool { return p.Id%2 == 0 })
	spoil(pulled)
	left := []api.Packet{l[10], l[12], l[14], l[16], l[18]}
	holds(t, q, left, l[3:10])
	removed, _ := q.SetLimits(3, 1000)
	spoil(removed)
	holds(t, q, left[:3], l[3:10])
	more := same(50, 8, 10)
	if _, code := q.SetLimits(20, 1000); code != api.OK {
		t.Fatal(code)
	}
	put(t, q, more...)
	spoil(cleaned)
	spoil(pulled)
	spoil(removed)
	holds(t, q, append(left[:3:3], more...), l[3:10])
	waiting, flight := q.Waiting(), q.Flight()
	sends(t, q, 0, 9, 9)
	serves(t, q, l[4:10]...)
	cleans(t, q, 0, 9, l[3:10]...)
	if !slices.Equal(waiting, append(left[:3:3], more...)) || !slices.Equal(flight, l[3:10]) {
		t.Error("what was returned is changed by later calls")
	}
}

// P13.1, P13.2, P13.3: every method of a queue that no call has returned: a nil one, and one made by hand.
func TestNil(t *testing.T) {
	for _, q := range []*Queue{nil, {}} {
		budgets := append([]int{1, 1000}, wrongBudgets...)
		for _, p := range []api.Packet{{}, pack(1, 1)} {
			if code := q.Put(p); code != api.ErrNil {
				t.Errorf("Put = %d", code)
			}
		}
		for _, budget := range budgets {
			for _, now := range []uint64{0, 5, math.MaxUint64} {
				if n, code := q.Send(now, budget); n != 0 || code != api.ErrNil {
					t.Errorf("Send = %d, %d", n, code)
				}
				if l, code := q.Clean(now, budget); len(l) != 0 || code != api.ErrNil {
					t.Errorf("Clean = %v, %d", l, code)
				}
			}
		}
		for _, act := range []func() (uint32, api.Errno){q.Fetch, q.Finish} {
			if id, code := act(); id != 0 || code != api.ErrNil {
				t.Errorf("Fetch or Finish = %d, %d", id, code)
			}
		}
		for _, code := range []api.Errno{q.SetRate(1, 1, 1), q.SetRate(math.MaxUint64, -1, math.MaxUint64)} {
			if code != api.ErrNil {
				t.Errorf("SetRate = %d", code)
			}
		}
		for _, n := range []int{1, 0, -1} {
			if l, code := q.SetLimits(n, n); len(l) != 0 || code != api.ErrNil {
				t.Errorf("SetLimits = %v, %d", l, code)
			}
		}
		asks := func(p api.Packet) bool {
			t.Errorf("asked about %v", p)
			return true
		}
		for _, l := range [][]api.Packet{q.Pull(asks), q.Pull(nil), q.Waiting(), q.Flight()} {
			if len(l) != 0 {
				t.Errorf("packets of a nil queue: %v", l)
			}
		}
		if d, b := q.State(); d != (api.Dql{}) || b != (api.Bucket{}) {
			t.Errorf("State() = %v, %v", d, b)
		}
	}
}

// model is what a queue must do, told by the document's words: lists, counts, and the states of the layers below.
type model struct {
	packets, bytes, ring int
	waiting, flight      []api.Packet
	fetched, finished    int // of the flight
	limit                api.Dql
	bucket               api.Bucket
}

func (m *model) put(p api.Packet) api.Errno {
	switch {
	case p.Len < 1 || p.Len > 65535:
		return api.ErrArg
	case len(m.waiting) >= m.packets:
		return api.ErrMany
	case int(bytesOf(m.waiting))+int(p.Len) > m.bytes:
		return api.ErrBytes
	}
	m.waiting = append(m.waiting, p)
	return api.OK
}

func (m *model) send(now uint64, budget int) (int, api.Errno) {
	if budget < 1 || budget > 1000 {
		return 0, api.ErrBudget
	}
	b, code := bucket.Fill(m.bucket, now)
	if code != api.OK {
		return 0, code
	}
	m.bucket = b
	n := 0
	for n < budget && len(m.waiting) > 0 && dql.Left(m.limit) > 0 && len(m.flight) < m.ring {
		p := m.waiting[0]
		b, allowed, _ := bucket.Take(m.bucket, int64(p.Len))
		if !allowed {
			break
		}
		m.bucket = b
		m.limit, _ = dql.Queue(m.limit, p.Len)
		m.waiting = m.waiting[1:]
		m.flight = append(m.flight, p)
		n++
	}
	return n, api.OK
}

func (m *model) fetch() (uint32, api.Errno) {
	if m.fetched == len(m.flight) {
		return 0, api.ErrEmpty
	}
	m.fetched++
	return m.flight[m.fetched-1].Id, api.OK
}

func (m *model) finish() (uint32, api.Errno) {
	if m.finished == m.fetched {
		return 0, api.ErrEmpty
	}
	m.finished++
	return m.flight[m.finished-1].Id, api.OK
}

func (m *model) clean(now uint64, budget int) ([]api.Packet, api.Errno) {
	if budget < 1 || budget > 1000 {
		return nil, api.ErrBudget
	}
	n := min(budget, m.finished)
	l := slices.Clone(m.flight[:n])
	m.flight = m.flight[n:]
	m.fetched -= n
	m.finished -= n
	if n > 0 {
		m.limit, _ = dql.Complete(m.limit, bytesOf(l), now)
	}
	return l, api.OK
}

func (m *model) setRate(rate uint64, burst int64, now uint64) api.Errno {
	b, code := bucket.SetRate(m.bucket, rate, burst, now)
	if code == api.OK {
		m.bucket = b
	}
	return code
}

func (m *model) setLimits(packets, bytes int) ([]api.Packet, api.Errno) {
	if packets < 1 || packets > 1000 || bytes < 1 || bytes > 1073741824 {
		return nil, api.ErrArg
	}
	m.packets, m.bytes = packets, bytes
	var over []api.Packet
	for len(m.waiting) > packets || int(bytesOf(m.waiting)) > bytes {
		last := len(m.waiting) - 1
		over = append(over, m.waiting[last])
		m.waiting = m.waiting[:last:last]
	}
	return over, api.OK
}

func (m *model) pull(isAsked func(p api.Packet) bool) []api.Packet {
	var pulled, kept []api.Packet
	for _, p := range m.waiting {
		if isAsked(p) {
			pulled = append(pulled, p)
		} else {
			kept = append(kept, p)
		}
	}
	m.waiting = kept
	return pulled
}

// run is a queue and what it must do, a clock, and what became of all packets that were put.
type run struct {
	t       *testing.T
	r       *rand.Rand
	q       *Queue
	m       *model
	now     uint64
	next    uint32
	put     []uint32        // the numbers of all that were put
	gone    map[uint32]int  // how often each was cleaned, pulled or removed
	pulled  map[uint32]bool // those that left otherwise than by Clean
	cleaned []uint32        // in the order in which they left
	bound   uint32          // of the bytes in flight: the limit when the last packet was posted
	largest uint32          // of all packets
}

func newRun(t *testing.T, s api.Setup, seed int64) *run {
	t.Helper()
	d, _ := dql.New(s.Least, s.Most, s.Hold, 0)
	b, _ := bucket.New(s.Rate, s.Burst, 0)
	return &run{t: t, r: rand.New(rand.NewSource(seed)), q: must(t, s, 0), m: &model{packets: s.Packets, bytes: s.Bytes, ring: s.Ring, limit: d, bucket: b}, gone: map[uint32]int{}, pulled: map[uint32]bool{}}
}

// is checks that two answers are equal.
func is[T comparable](t *testing.T, what string, got, want T) {
	t.Helper()
	if got != want {
		t.Fatalf("%s: %v, want %v", what, got, want)
	}
}

// are checks that two lists of packets are equal.
func are(t *testing.T, what string, got, want []api.Packet) {
	t.Helper()
	if !slices.Equal(got, want) {
		t.Fatalf("%s: %v, want %v", what, got, want)
	}
}

// left notes that packets left otherwise than by Clean.
func (u *run) left(l []api.Packet) {
	for _, p := range l {
		u.gone[p.Id]++
		u.pulled[p.Id] = true
	}
}

// doPut puts some packets, right ones and wrong ones.
func (u *run) doPut() {
	for range 1 + u.r.Intn(4) {
		length := uint32(1 + u.r.Intn(40))
		switch u.r.Intn(40) {
		case 0:
			length = 0
		case 1:
			length = 65536
		case 2:
			length = 65535
		}
		p := pack(u.next, length)
		u.next++
		code := u.q.Put(p)
		is(u.t, "Put", code, u.m.put(p))
		if code == api.OK {
			u.put = append(u.put, p.Id)
			u.largest = max(u.largest, p.Len)
		}
	}
}

// budget is one that is mostly right and small.
func (u *run) budget() int { return []int{1, 1, 2, 3, 5, 9, 1000, 0, -1, 1001}[u.r.Intn(10)] }

// time is one that mostly goes on from the one before.
func (u *run) time() uint64 {
	switch u.r.Intn(12) {
	case 0:
		return u.now - min(u.now, uint64(u.r.Intn(3)))
	case 1, 2, 3, 4:
		return u.now
	}
	u.now += uint64(u.r.Intn(30000000))
	return u.now
}

// doSend sends; the limit does not change while it does.
func (u *run) doSend() {
	now, budget := u.time(), u.budget()
	limit := limitOf(u.q).Limit
	n, code := u.q.Send(now, budget)
	m, want := u.m.send(now, budget)
	is(u.t, "Send", n, m)
	is(u.t, "Send", code, want)
	if n > 0 {
		u.bound = limit
	}
}

// doDevice lets the device fetch and finish some, in turn or not.
func (u *run) doDevice() {
	for range 1 + u.r.Intn(6) {
		act, model := u.q.Fetch, u.m.fetch
		if u.r.Intn(2) == 0 {
			act, model = u.q.Finish, u.m.finish
		}
		id, code := act()
		wantID, want := model()
		is(u.t, "Fetch or Finish", id, wantID)
		is(u.t, "Fetch or Finish", code, want)
	}
}

func (u *run) doClean() {
	now, budget := u.time(), u.budget()
	l, code := u.q.Clean(now, budget)
	want, wantCode := u.m.clean(now, budget)
	are(u.t, "Clean", l, want)
	is(u.t, "Clean", code, wantCode)
	for _, p := range l {
		u.gone[p.Id]++
		u.cleaned = append(u.cleaned, p.Id)
	}
}

// doChange changes the rate or the limits, or pulls.
func (u *run) doChange() {
	switch u.r.Intn(3) {
	case 0:
		rate := []uint64{0, 500, 3000, 1000000, 1099511627776, 1099511627777}[u.r.Intn(6)]
		burst := []int64{0, 1, 30, 500, 100000}[u.r.Intn(5)]
		now := u.time()
		is(u.t, "SetRate", u.q.SetRate(rate, burst, now), u.m.setRate(rate, burst, now))
	case 1:
		packets, bytes := u.r.Intn(30), u.r.Intn(5)*200
		l, code := u.q.SetLimits(packets, bytes)
		want, wantCode := u.m.setLimits(packets, bytes)
		are(u.t, "SetLimits", l, want)
		is(u.t, "SetLimits", code, wantCode)
		u.left(l)
	case 2:
		by, rest := uint32(2+u.r.Intn(9)), uint32(u.r.Intn(11))
		asks := func(p api.Packet) bool { return p.Id%by == rest }
		l := u.q.Pull(asks)
		are(u.t, "Pull", l, u.m.pull(asks))
		u.left(l)
	}
}

// check checks all that holds behind any call.
func (u *run) check() {
	t := u.t
	t.Helper()
	are(t, "Waiting", u.q.Waiting(), u.m.waiting)
	are(t, "Flight", u.q.Flight(), u.m.flight)
	d, b := u.q.State()
	is(t, "State", d, u.m.limit)
	is(t, "State", b, u.m.bucket)
	is(t, "bytes in flight", dql.Flight(d), bytesOf(u.m.flight))
	if f := dql.Flight(d); f > 0 && f > u.bound+u.largest-1 {
		t.Fatalf("%d bytes are in flight, by a limit of %d, of packets of at most %d", f, u.bound, u.largest)
	}
	if !dql.Right(d) || !bucket.Right(b) {
		t.Fatalf("states that may not be: %v, %v", d, b)
	}
}

// once checks that each packet that was put is in one place, and that those that were cleaned left in the order in which they were put.
func (u *run) once() {
	u.t.Helper()
	found := map[uint32]int{}
	for id, n := range u.gone {
		found[id] += n
	}
	for _, l := range [][]api.Packet{u.q.Waiting(), u.q.Flight()} {
		for _, p := range l {
			found[p.Id]++
		}
	}
	for _, id := range u.put {
		if found[id] != 1 {
			u.t.Fatalf("the packet %d is in %d places", id, found[id])
		}
	}
	if len(found) != len(u.put) {
		u.t.Fatalf("%d packets were put, %d are there", len(u.put), len(found))
	}
	if !slices.IsSorted(u.cleaned) {
		u.t.Fatalf("cleaned in the order %v", u.cleaned)
	}
}

// P13.1, P13.2, P13.3, P13.4: many acts in turn are answered as the document's words say; behind each, every packet that was put is in one place, and no more bytes are in flight than may be.
func TestRuns(t *testing.T) {
	setups := []api.Setup{
		{Packets: 20, Bytes: 500, Ring: 8, Least: 30, Most: 300, Hold: 20000000, Rate: 3000, Burst: 60},
		{Packets: 20, Bytes: 500, Ring: 1, First: math.MaxUint32 - 20, Least: 1, Most: 1073741824, Rate: 100000, Burst: 1},
		{Packets: 1000, Bytes: 1073741824, Ring: 16, First: math.MaxUint32, Least: 10, Most: 100, Hold: 1, Burst: 1},
		{Packets: 1000, Bytes: 100000, Ring: 64, First: 1 << 31, Least: 100, Most: 100000, Hold: math.MaxUint64, Rate: 1000000, Burst: 100000},
	}
	for _, s := range setups {
		for seed := range int64(15) {
			u := newRun(t, s, seed)
			acts := []func(){u.doPut, u.doPut, u.doSend, u.doSend, u.doDevice, u.doDevice, u.doClean, u.doClean}
			for i := range 600 {
				if i%40 == 39 {
					u.doChange()
				} else {
					acts[u.r.Intn(len(acts))]()
				}
				u.check()
				u.once()
			}
		}
	}
}

// P13.4: of a queue that is drained, every packet was cleaned, in the order in which they were put, with all indexes of the ring going round.
func TestDrained(t *testing.T) {
	for _, size := range []int{1, 2, 8, 256} {
		var all, cleaned []api.Packet
		q := must(t, with(func(s *api.Setup) {
			s.Ring, s.First, s.Least, s.Most, s.Hold, s.Rate, s.Burst = size, math.MaxUint32-300, 100, 2000, 1000, 1000000, 500
		}), 0)
		for now := uint64(0); len(cleaned) < 1000; now += 100000 {
			if len(all) < 1000 {
				p := pack(uint32(len(all)), uint32(1+len(all)*37%150))
				put(t, q, p)
				all = append(all, p)
			}
			if _, code := q.Send(now, 9); code != api.OK {
				t.Fatal(code)
			}
			q.Fetch()
			q.Finish()
			q.Fetch()
			l, code := q.Clean(now, 2)
			if code != api.OK {
				t.Fatal(code)
			}
			cleaned = append(cleaned, l...)
		}
		are(t, "cleaned", cleaned, all)
		holds(t, q, nil, nil)
		is(t, "bytes in flight", dql.Flight(limitOf(q)), 0)
	}
}

// P13.4: right behind a Send, the bytes in flight go up to the bound, and no further.
func TestBound(t *testing.T) {
	for _, least := range []uint32{1, 2, 10, 99, 100, 101, 65535, 1000000} {
		for _, length := range []uint32{1, 2, 9, 10, 100, 65535} {
			q := loaded(t, with(func(s *api.Setup) { s.Least, s.Most = least, least }), same(1, 1000, length)...)
			want := min(1000, int((least+length-1)/length))
			sends(t, q, 0, 1000, want)
			if f := dql.Flight(limitOf(q)); f > least+length-1 || f != uint32(want)*length {
				t.Errorf("a limit of %d, packets of %d: %d in flight", least, length, f)
			}
		}
	}
}
