package dql

import (
	"math"
	"math/rand"
	"testing"

	"waymaster/api"
)

const (
	last = math.MaxUint32
	half = 1 << 31
	most = 1 << 30 // the greatest Max
	ever = math.MaxUint64
)

// starts are counts to begin at, most of them near where counts wrap round or change their upper bit.
var starts = []uint32{0, 1, 1000003, half - 65536, half - 31, half - 1, half, half + 1, last - 65535, last - 40, last - 10, last - 1, last}

// made is New's state, which must be.
func made(t *testing.T, least, most uint32, hold, now uint64) api.Dql {
	t.Helper()
	d, e := New(least, most, hold, now)
	if e != api.OK {
		t.Fatalf("New(%d, %d, %d, %d): %d", least, most, hold, now, e)
	}
	return d
}

// busy is a valid state by hand, whose counts begin at start: 40 bytes are in flight, 20 of which were there at the last completing, and the limit is 50.
func busy(start uint32) api.Dql {
	return api.Dql{
		Queued: start + 40, Adj: start + 50, Last: 20, Limit: 50, Completed: start,
		PrevLast: 25, PrevQueued: start + 20, Slack: last, Hold: 5, Min: 10, Max: 100,
	}
}

// moved is a state whose four counts are greater by n, nothing else.
func moved(d api.Dql, n uint32) api.Dql {
	d.Queued += n
	d.Completed += n
	d.Adj += n
	d.PrevQueued += n
	return d
}

// P4.1, New: every field of the state, at ordinary bounds and at the least and the greatest.
func TestNew(t *testing.T) {
	for _, b := range [][2]uint32{{10, 100}, {1, 1}, {1, 2}, {1, most}, {most - 1, most}, {most, most}, {7, 7}} {
		for _, hold := range []uint64{0, 1, 5, half, last + 1, ever} {
			for _, now := range []uint64{0, 1, 9, last + 1, ever} {
				want := api.Dql{Adj: b[0], Limit: b[0], Slack: 4294967295, Start: now, Hold: hold, Min: b[0], Max: b[1]}
				if d, e := New(b[0], b[1], hold, now); d != want || e != api.OK {
					t.Errorf("New(%d, %d, %d, %d) = %+v, %d", b[0], b[1], hold, now, d, e)
				}
				if !Right(want) || Left(want) != int32(b[0]) || Flight(want) != 0 {
					t.Errorf("%+v: Right %v, Left %d, Flight %d", want, Right(want), Left(want), Flight(want))
				}
			}
		}
	}
}

// P4.1, New: bounds that are none, and their neighbours that are.
func TestNewWrong(t *testing.T) {
	edges := []uint32{0, 1, 2, 9, 10, 11, 65535, most - 1, most, most + 1, half - 1, half, half + 1, last - 1, last}
	for _, a := range edges {
		for _, b := range edges {
			code := api.OK
			if a == 0 || a > b || b > 1073741824 {
				code = api.ErrArg
			}
			d, e := New(a, b, 5, 6)
			if e != code || (e != api.OK && d != api.Dql{}) {
				t.Errorf("New(%d, %d) = %+v, %d, want %d", a, b, d, e, code)
			}
		}
	}
}

// wrongStates are states each of which breaks one rule of those that are valid.
func wrongStates() []api.Dql {
	l := []api.Dql{{}}
	broken := func(change func(d *api.Dql)) {
		for _, start := range starts {
			d := busy(start)
			change(&d)
			l = append(l, d)
		}
	}
	limited := func(limit uint32) func(d *api.Dql) {
		return func(d *api.Dql) { d.Limit, d.Adj = limit, d.Completed+limit }
	}
	broken(func(d *api.Dql) { d.Min = 0 })
	broken(func(d *api.Dql) { d.Min = 51 })
	broken(func(d *api.Dql) { d.Min = 101 })
	broken(func(d *api.Dql) { d.Min = last })
	broken(func(d *api.Dql) { d.Max = 0 })
	broken(func(d *api.Dql) { d.Max = 9 })
	broken(func(d *api.Dql) { d.Max = 49 })
	broken(func(d *api.Dql) { d.Max = most + 1 })
	broken(func(d *api.Dql) { d.Max = half })
	broken(func(d *api.Dql) { d.Max = last })
	broken(func(d *api.Dql) { d.Min, d.Max = 60, 40 })
	broken(func(d *api.Dql) { d.Min, d.Max = most+1, most+1; limited(most + 1)(d) })
	broken(func(d *api.Dql) { d.Min, d.Max = 0, 0; limited(0)(d) })
	broken(limited(0))
	broken(limited(9))
	broken(limited(101))
	broken(limited(half))
	broken(limited(last))
	broken(func(d *api.Dql) { d.Adj++ })
	broken(func(d *api.Dql) { d.Adj-- })
	broken(func(d *api.Dql) { d.Adj += half })
	broken(func(d *api.Dql) { d.Adj = d.Limit + d.Queued })
	broken(func(d *api.Dql) { d.Limit++ })
	broken(func(d *api.Dql) { d.Queued = d.Completed + half })
	broken(func(d *api.Dql) { d.Queued = d.Completed + half + 1 })
	broken(func(d *api.Dql) { d.Queued = d.Completed - 1 })
	return l
}

// P4.1, Right: states at the edges of what is valid, and the fields that do not count.
func TestRight(t *testing.T) {
	for _, start := range starts {
		for _, b := range [][3]uint32{{1, 1, 1}, {1, 1, most}, {1, most, most}, {most, most, most}, {10, 10, 100}, {10, 99, 100}, {10, 100, 100}} {
			for _, flight := range []uint32{0, 1, 2, 65535, most, half - 2, half - 1} {
				d := api.Dql{Queued: start + flight, Completed: start, Adj: start + b[1], Min: b[0], Limit: b[1], Max: b[2]}
				if !Right(d) {
					t.Errorf("Right(%+v) = false", d)
				}
				d.Last, d.PrevOver, d.PrevLast, d.PrevQueued, d.Slack, d.Start, d.Hold = last, last, last, start-1, 3, ever, ever
				if !Right(d) {
					t.Errorf("Right(%+v) = false", d)
				}
			}
		}
	}
	for _, d := range wrongStates() {
		if Right(d) {
			t.Errorf("Right(%+v) = true", d)
		}
	}
}

// P4.1, Left and Flight: they hang on the counts alone, across the wrap, in states that are not valid too.
func TestLeftFlight(t *testing.T) {
	for _, start := range starts {
		for _, limit := range []uint32{1, 10, 65535, most} {
			for _, flight := range []uint32{0, 1, limit - 1, limit, limit + 1, half - 1} {
				d := api.Dql{Queued: start + flight, Completed: start, Adj: start + limit, Limit: limit, Min: 1, Max: most}
				if left := int64(limit) - int64(flight); int64(Left(d)) != left || Flight(d) != flight {
					t.Errorf("%+v: Left %d, Flight %d", d, Left(d), Flight(d))
				}
			}
		}
	}
	for _, c := range []struct {
		d      api.Dql
		left   int32
		flight uint32
	}{
		{api.Dql{}, 0, 0},
		{api.Dql{Queued: 1}, -1, 1},
		{api.Dql{Completed: 1}, 0, last},
		{api.Dql{Adj: 7, Limit: 99}, 7, 0},
		{api.Dql{Adj: half - 1}, math.MaxInt32, 0},
		{api.Dql{Adj: half}, math.MinInt32, 0},
		{api.Dql{Adj: last}, -1, 0},
		{api.Dql{Queued: half, Completed: 0}, math.MinInt32, half},
		{api.Dql{Queued: 5, Adj: 2, Completed: last}, -3, 6},
	} {
		if Left(c.d) != c.left || Flight(c.d) != c.flight {
			t.Errorf("%+v: Left %d, Flight %d", c.d, Left(c.d), Flight(c.d))
		}
	}
}

// The document's examples of P4.1 and P4.2.
func TestExamples(t *testing.T) {
	d := made(t, 10, 100, 5, 0)
	if Left(d) != 10 {
		t.Errorf("Left %d", Left(d))
	}
	d, e := Queue(d, 30)
	if e != api.OK || Left(d) != -20 || Flight(d) != 30 {
		t.Errorf("%+v, %d: Left %d, Flight %d", d, e, Left(d), Flight(d))
	}
	d, e = Complete(d, 30, 1)
	want := api.Dql{Queued: 30, Adj: 70, Last: 30, Limit: 40, Completed: 30, PrevLast: 30, PrevQueued: 30, Slack: last, Start: 1, Hold: 5, Min: 10, Max: 100}
	if d != want || e != api.OK {
		t.Errorf("%+v, %d", d, e)
	}
}

// P4.2: all three refuse a state that is not valid ahead of anything else.
func TestWrongStates(t *testing.T) {
	for _, d := range wrongStates() {
		for _, n := range []uint32{0, 1, 20, 65535, 65536, half, last} {
			if x, e := Queue(d, n); x != (api.Dql{}) || e != api.ErrArg {
				t.Errorf("Queue(%+v, %d) = %+v, %d", d, n, x, e)
			}
			if x, e := Complete(d, n, 9); x != (api.Dql{}) || e != api.ErrArg {
				t.Errorf("Complete(%+v, %d) = %+v, %d", d, n, x, e)
			}
		}
		if x, e := Reset(d, 9); x != (api.Dql{}) || e != api.ErrArg {
			t.Errorf("Reset(%+v) = %+v, %d", d, x, e)
		}
	}
}

// P4.2, Queue: only Queued and Last change; 1 and 65535 bytes and 2147483647 in flight are the edges.
func TestQueue(t *testing.T) {
	for _, start := range starts {
		for _, flight := range []uint32{0, 1, 40, half - 65537, half - 65536, half - 65535, half - 3, half - 2, half - 1} {
			d := busy(start)
			d.Queued = start + flight
			for _, n := range []uint32{0, 1, 2, 30, 65534, 65535, 65536, 65537, 1 << 17, most, half - 1, half, last - 1, last} {
				want, code := d, api.OK
				want.Queued, want.Last = d.Queued+n, n
				if n == 0 || n > 65535 || int64(flight)+int64(n) > 2147483647 {
					want, code = api.Dql{}, api.ErrCount
				}
				if x, e := Queue(d, n); x != want || e != code {
					t.Errorf("Queue(%+v, %d) = %+v, %d, want %+v, %d", d, n, x, e, want, code)
				}
			}
		}
	}
}

// P4.2, Reset: as New, whatever had happened.
func TestReset(t *testing.T) {
	for _, start := range starts {
		for _, b := range [][3]uint32{{1, 1, 1}, {10, 50, 100}, {1, most, most}, {most, most, most}} {
			for _, now := range []uint64{0, 9, ever} {
				d := busy(start)
				d.Min, d.Limit, d.Max, d.Adj = b[0], b[1], b[2], start+b[1]
				d.PrevOver, d.Slack, d.Start, d.Hold = 4, 3, 77, ever-1
				want := api.Dql{Adj: b[0], Limit: b[0], Slack: last, Start: now, Hold: ever - 1, Min: b[0], Max: b[2]}
				if x, e := Reset(d, now); x != want || e != api.OK {
					t.Errorf("Reset(%+v, %d) = %+v, %d", d, now, x, e)
				}
			}
		}
	}
}

// P4.2, Complete: 0 bytes and all of them are completed, one more is ErrCount.
func TestCompleteCount(t *testing.T) {
	for _, start := range starts {
		for _, flight := range []uint32{0, 1, 2, 40, 65536, most, half - 2, half - 1} {
			d := busy(start)
			d.Queued = start + flight
			for _, n := range []uint32{0, 1, 2, flight - 1, flight, flight + 1, half - 1, half, last} {
				x, e := Complete(d, n, 9)
				if n > flight && (x != api.Dql{} || e != api.ErrCount) {
					t.Errorf("Complete(%+v, %d) = %+v, %d", d, n, x, e)
				}
				if n <= flight && (e != api.OK || Flight(x) != flight-n || x.Completed != start+n) {
					t.Errorf("Complete(%+v, %d) = %+v, %d", d, n, x, e)
				}
			}
		}
	}
}

// outcome is what completing may change besides the counts.
type outcome struct {
	limit, prevOver, slack uint32
	start                  uint64
}

// completed asks for one completing, from every start of the counts, and holds each field of the answer against what is wanted.
func completed(t *testing.T, name string, change func(d *api.Dql), n uint32, now uint64, want outcome) {
	t.Helper()
	for _, start := range starts {
		d := busy(start)
		change(&d)
		x, e := Complete(d, n, now)
		w := api.Dql{
			Queued: d.Queued, Adj: want.limit + start + n, Last: d.Last, Limit: want.limit, Completed: start + n,
			PrevOver: want.prevOver, PrevLast: d.Last, PrevQueued: d.Queued,
			Slack: want.slack, Start: want.start, Hold: d.Hold, Min: d.Min, Max: d.Max,
		}
		if x != w || e != api.OK {
			t.Errorf("%s, from %d: Complete(%+v, %d, %d)\n= %+v, %d,\nwant %+v", name, start, d, n, now, x, e, w)
		}
	}
}

// P4.2, Complete: the limit rises if the device ran out with more than the limit in flight, or caught up with what was too much at the last time.
func TestRise(t *testing.T) {
	first := func(queued uint32) func(d *api.Dql) { // nothing was completed yet, the limit is 10
		return func(d *api.Dql) {
			d.Queued, d.PrevQueued, d.PrevLast = d.Completed+queued, d.Completed, 0
			d.Limit, d.Adj, d.Slack = 10, d.Completed+10, 33
		}
	}
	over := func(d *api.Dql) { // 20 were too much at the last time, all of them in flight still, and 5 more
		first(25)(d)
		d.PrevQueued, d.PrevOver, d.PrevLast = d.Completed+20, 20, 30
	}
	overAll := func(d *api.Dql) { // the same without the 5
		over(d)
		d.Queued -= 5
	}
	completed(t, "all of too many", first(30), 30, 1, outcome{40, 0, last, 1})
	completed(t, "all of one too many", first(11), 11, 1, outcome{21, 0, last, 1})
	completed(t, "all of what is just enough", first(10), 10, 1, outcome{10, 0, 33, 0})
	completed(t, "all of few", first(5), 5, 9, outcome{10, 0, 33, 0})
	completed(t, "some of too many", first(30), 10, 9, outcome{10, 20, 33, 0})
	completed(t, "all but one of too many", first(30), 29, 9, outcome{10, 20, 33, 0})
	completed(t, "none of too many", first(30), 0, 9, outcome{10, 20, 33, 0})
	completed(t, "none of none", first(0), 0, 9, outcome{10, 0, 33, 0})
	completed(t, "all of too many, held at Max", first(65535), 65535, 1, outcome{100, 0, last, 1})
	completed(t, "all of too many, to Max", first(90), 90, 1, outcome{100, 0, last, 1})
	completed(t, "all of too many, to less than Max", first(89), 89, 1, outcome{99, 0, last, 1})
	completed(t, "caught up", over, 20, 2, outcome{30, 0, last, 2})
	completed(t, "caught up, and more", over, 22, 2, outcome{32, 0, last, 2})
	completed(t, "caught up, and all", over, 25, 2, outcome{35, 0, last, 2})
	completed(t, "not caught up", over, 19, 2, outcome{10, 15, 10, 0})
	completed(t, "all, none of them new", overAll, 20, 2, outcome{30, 0, last, 2})
	completed(t, "rising ahead of Start", overAll, 20, 0, outcome{30, 0, last, 0})
	completed(t, "caught up with nothing too much", func(d *api.Dql) { over(d); d.PrevOver = 0 }, 20, 2, outcome{10, 15, 33, 0})
	completed(t, "at Max already", func(d *api.Dql) {
		overAll(d)
		d.Limit, d.Max, d.Adj = 10, 10, d.Completed+10
	}, 20, 2, outcome{10, 10, last, 2}) // it does not differ, so what is over stays
	completed(t, "PrevQueued far behind", func(d *api.Dql) {
		d.Max, d.PrevOver, d.PrevQueued = most, 1, d.Completed-half+1
	}, 0, 2, outcome{most, 0, last, 2})
	completed(t, "PrevQueued neither ahead nor behind", func(d *api.Dql) {
		d.PrevOver, d.PrevQueued = 3, d.Completed+half
	}, 0, 2, outcome{53, 0, last, 2})
	completed(t, "rising around the wrap", func(d *api.Dql) {
		d.PrevOver, d.PrevQueued = last-3, d.Completed
	}, 0, 2, outcome{46, 0, last, 2})
	completed(t, "rising around the wrap, held at Min", func(d *api.Dql) {
		d.PrevOver, d.PrevQueued = last-48, d.Completed
	}, 0, 2, outcome{10, 0, last, 2})
}

// P4.2, Complete: the least slack is kept, and taken from the limit once the time is greater than Start by more than Hold.
func TestFall(t *testing.T) {
	same := func(d *api.Dql) {}
	completed(t, "too early", same, 5, 0, outcome{50, 0, 40, 0})
	completed(t, "by Hold", same, 5, 5, outcome{50, 0, 40, 0})
	completed(t, "by one more than Hold", same, 5, 6, outcome{10, 0, last, 6})
	completed(t, "less slack", same, 13, 6, outcome{26, 0, last, 6})
	completed(t, "one byte of slack", func(d *api.Dql) { d.Limit, d.Adj = 31, d.Completed+31 }, 15, 6, outcome{30, 0, last, 6})
	completed(t, "no slack", func(d *api.Dql) { d.Limit, d.Adj = 30, d.Completed+30 }, 15, 6, outcome{30, 10, last, 6})
	completed(t, "less than none", func(d *api.Dql) { d.Limit, d.Adj = 29, d.Completed+29 }, 15, 6, outcome{29, 11, last, 6})
	completed(t, "none completed", same, 0, 6, outcome{10, 0, last, 6})
	completed(t, "none completed, early", same, 0, 5, outcome{50, 0, 50, 0})
	completed(t, "less slack before", func(d *api.Dql) { d.Slack = 7 }, 5, 6, outcome{43, 0, last, 6})
	completed(t, "less slack before, early", func(d *api.Dql) { d.Slack = 7 }, 5, 5, outcome{50, 0, 7, 0})
	completed(t, "more slack before, early", func(d *api.Dql) { d.Slack = 41 }, 5, 5, outcome{50, 0, 40, 0})
	completed(t, "no slack before", func(d *api.Dql) { d.Slack = 0 }, 5, 6, outcome{50, 0, last, 6})
	completed(t, "held at Min", func(d *api.Dql) { d.Min = 20 }, 5, 6, outcome{20, 0, last, 6})
	completed(t, "at Min already", func(d *api.Dql) { d.Min, d.Queued = 50, d.Completed+60 }, 5, 6, outcome{50, 10, last, 6})
	completed(t, "too much in flight", func(d *api.Dql) { d.Queued = d.Completed + 80 }, 5, 6, outcome{10, 0, last, 6})
	completed(t, "too much in flight, early", func(d *api.Dql) { d.Queued = d.Completed + 80 }, 5, 5, outcome{50, 30, 40, 0})
	completed(t, "all that was there at the last time", same, 20, 6, outcome{50, 0, last, 0})
	completed(t, "all but one of that", same, 19, 6, outcome{38, 0, last, 6})
	completed(t, "nothing was there at the last time", func(d *api.Dql) { d.PrevQueued = d.Completed }, 5, 6, outcome{50, 0, last, 0})
	completed(t, "all in flight", func(d *api.Dql) { d.PrevQueued = d.Queued + 9 }, 40, 6, outcome{50, 0, last, 0})
	completed(t, "all but one in flight", func(d *api.Dql) { d.PrevQueued = d.Queued + 9 }, 39, 6, outcome{50, 0, last, 6})
	huge := func(d *api.Dql) { d.Queued, d.PrevQueued = d.Completed+half-1, d.Completed+half-1 }
	completed(t, "twice the bytes near the wrap", huge, half-2, 5, outcome{50, half - 51, 54, 0}) // 50 is ahead of 4294967292 by 54
	completed(t, "twice the bytes near the wrap, and a fall", huge, half-2, 6, outcome{10, 0, last, 6})
}

// P4.2, Complete: with PrevOver greater than 0, it adds to the limit, and the last packet's rest is the least that slack is; with 0, PrevLast says nothing.
func TestPrevOver(t *testing.T) {
	with := func(over, lastOne uint32) func(d *api.Dql) {
		return func(d *api.Dql) { d.PrevOver, d.PrevLast = over, lastOne }
	}
	completed(t, "0, and much of the last one", with(0, 65535), 13, 5, outcome{50, 0, 24, 0})
	completed(t, "it adds to the limit", with(5, 0), 13, 5, outcome{50, 0, 29, 0})
	completed(t, "1, nothing of the last one", with(1, 1), 13, 5, outcome{50, 0, 25, 0})
	completed(t, "the last one's rest is less", with(5, 33), 13, 5, outcome{50, 0, 29, 0})
	completed(t, "the last one's rest is more", with(5, 35), 13, 5, outcome{50, 0, 30, 0})
	completed(t, "the last one is less than over", with(50, 30), 13, 5, outcome{50, 0, 74, 0})
	completed(t, "the last one's rest, and a fall", with(5, 45), 13, 6, outcome{10, 0, last, 6})
	completed(t, "the last one's rest, and a lesser fall", with(5, 38), 13, 6, outcome{17, 0, last, 6})
	completed(t, "the limit and over wrap round", with(last-39, last-39), 0, 5, outcome{50, 0, 10, 0})
	completed(t, "the last one and over are apart around the wrap", with(last-39, 0), 0, 5, outcome{50, 0, 40, 0})
}

// P4.2, Complete: times at the edges; a time that is not greater than Start never lets the limit fall.
func TestTimes(t *testing.T) {
	for _, c := range []struct {
		start, hold, now uint64
		falls            bool
	}{
		{0, 0, 0, false}, {0, 0, 1, true}, {10, 0, 9, false}, {10, 0, 10, false}, {10, 0, 11, true},
		{10, 5, 3, false}, {10, 5, 9, false}, {10, 5, 10, false}, {10, 5, 14, false}, {10, 5, 15, false}, {10, 5, 16, true},
		{10, 5, 0, false}, {ever, 0, 0, false}, {ever, 0, ever, false}, {ever, 5, 100, false}, {ever - 1, 0, ever, true}, {ever - 1, 1, ever, false},
		{0, ever, ever, false}, {0, ever - 1, ever, true}, {5, ever, 4, false}, {1, ever, ever, false}, {ever, ever, ever - 1, false}, {ever - 9, 9, ever, false}, {ever - 9, 8, ever, true},
		{ever - 9, 20, 5, false}, {ever - 9, 20, 60, false}, {half, 3, 3 << 32, true}, {1 << 40, 5, 1<<40 + 5, false}, {1 << 40, 5, 1<<40 + 6, true},
	} {
		want := outcome{50, 0, 40, c.start}
		if c.falls {
			want = outcome{10, 0, last, c.now}
		}
		completed(t, "time", func(d *api.Dql) { d.Start, d.Hold = c.start, c.hold }, 5, c.now, want)
	}
}

// far and over are the distance and Over of the document, in numbers that do not wrap round by themselves.
func far(a, b int64) int64 { return ((b-a)%(1<<32) + 1<<32) % (1 << 32) }

func over(a, b int64) int64 {
	if x := far(b, a); x >= 1 && x <= 2147483647 {
		return x
	}
	return 0
}

// byWords is completing as the document's words tell it, in their order.
func byWords(d api.Dql, n uint32, now uint64) api.Dql {
	queued, completed, limit, prevOver, prevQueued, slack := int64(d.Queued), int64(d.Completed), int64(d.Limit), int64(d.PrevOver), int64(d.PrevQueued), int64(d.Slack)
	c := far(0, completed+int64(n))
	o := over(far(completed, queued), limit)
	p := far(c, queued)
	q := far(completed, prevQueued)
	ahead := far(c, prevQueued)
	all := !(ahead >= 1 && ahead <= 2147483647)
	l := limit
	if o > 0 && p == 0 || prevOver > 0 && all {
		l = far(0, l+over(c, prevQueued)+prevOver)
		d.Start, slack = now, 4294967295
	} else if p != 0 && q != 0 && !all {
		s := over(far(0, limit+prevOver), far(0, 2*int64(n)))
		if least := over(int64(d.PrevLast), prevOver); prevOver > 0 && s < least {
			s = least
		}
		if s < slack {
			slack = s
		}
		if now > d.Start && now-d.Start > d.Hold {
			l = over(l, slack)
			d.Start, slack = now, 4294967295
		}
	}
	if l < int64(d.Min) {
		l = int64(d.Min)
	}
	if l > int64(d.Max) {
		l = int64(d.Max)
	}
	if l != limit {
		d.Limit = uint32(l)
		o = 0
	}
	d.Adj = uint32(far(0, l+c))
	d.PrevOver = uint32(o)
	d.PrevLast = d.Last
	d.Completed = uint32(c)
	d.PrevQueued = d.Queued
	d.Slack = uint32(slack)
	return d
}

// anyState is a valid state whose fields are picked from edges, and sometimes from all numbers.
func anyState(r *rand.Rand) api.Dql {
	pick := func(l ...uint32) uint32 {
		if r.Intn(8) == 0 {
			return r.Uint32()
		}
		return l[r.Intn(len(l))]
	}
	bounds := [][3]uint32{{1, 1, 1}, {1, 1, most}, {1, most, most}, {most, most, most}, {10, 10, 100}, {10, 50, 100}, {10, 100, 100}, {50, 50, 50}, {1, 500, 1000}}
	b := bounds[r.Intn(len(bounds))]
	flight := pick(0, 1, 2, 9, 10, 11, 40, 50, 51, 65535, most, half-2, half-1) & (half - 1)
	start := pick(starts...)
	times := []uint64{0, 1, 5, 6, 10, 1 << 40, ever - 5, ever - 1, ever}
	return api.Dql{
		Queued: start + flight, Completed: start, Adj: start + b[1], Min: b[0], Limit: b[1], Max: b[2],
		Last:       pick(0, 1, 30, 65535, last),
		PrevOver:   pick(0, 0, 1, 20, 50, half-1, half, last),
		PrevLast:   pick(0, 1, 20, 30, 65535, half, last),
		PrevQueued: start + pick(0, 1, 5, flight/2, flight-1, flight, flight+1, half-1, half, half+1, last),
		Slack:      pick(0, 1, 7, 40, half, last, last),
		Start:      times[r.Intn(len(times))],
		Hold:       times[r.Intn(len(times))],
	}
}

// P4.2 and P4.3: many valid states, from fixed seeds: completing is as the words tell it, and leaves the state valid.
func TestByWords(t *testing.T) {
	r := rand.New(rand.NewSource(1))
	times := []uint64{0, 1, 2, 5, 6, 7, 11, 12, 16, 1<<40 + 6, ever - 5, ever - 1, ever}
	for range 400000 {
		d := anyState(r)
		f := Flight(d)
		if !Right(d) {
			t.Fatalf("Right(%+v) = false", d)
		}
		n := []uint32{0, 1, 5, f / 4, f / 2, f - 1, f}[r.Intn(7)]
		if n > f {
			n = f
		}
		now := times[r.Intn(len(times))]
		x, e := Complete(d, n, now)
		if want := byWords(d, n, now); x != want || e != api.OK || !Right(x) {
			t.Fatalf("Complete(%+v, %d, %d)\n= %+v, %d,\nwant %+v", d, n, now, x, e, want)
		}
		if y, e := Queue(x, 1+uint32(r.Intn(65535))); e == api.OK && !Right(y) {
			t.Fatalf("%+v is not valid after queueing", y)
		}
		if y, e := Reset(x, now); e != api.OK || !Right(y) {
			t.Fatalf("%+v, %d after Reset", y, e)
		}
	}
}

// turn is one call of a run: bytes are queued, or completed at a time.
type turn struct {
	queue bool
	n     uint32
	now   uint64
}

// run makes calls on a state, most of which are allowed; it queues only while bytes are left. After each call, watch is told of it.
func run(r *rand.Rand, d api.Dql, calls int, watch func(before, after api.Dql, c turn)) {
	largest, now := 1+r.Intn(65535), d.Start
	if r.Intn(2) == 0 {
		largest = 1 + r.Intn(40)
	}
	for range calls {
		now += uint64(r.Intn(3))
		c := turn{Left(d) > 0 && r.Intn(3) > 0, 1 + uint32(r.Intn(largest)), now}
		next, code := api.Dql{}, api.OK
		if c.queue {
			next, code = Queue(d, c.n)
		} else {
			f := Flight(d)
			c.n = []uint32{f, f / 2, uint32(r.Int63n(int64(f) + 1)), 0}[r.Intn(4)]
			next, code = Complete(d, c.n, now)
		}
		if code != api.OK {
			panic("a call that is right was refused")
		}
		watch(d, next, c)
		d = next
	}
}

// P4.3: a valid state stays valid, and the bytes in flight are at most the Limit at the time of queueing plus the largest packet minus one.
func TestFlightIsBounded(t *testing.T) {
	r := rand.New(rand.NewSource(2))
	rose, fell, wrapped := 0, 0, 0
	for _, b := range [][2]uint32{{1, 1}, {1, 1000}, {10, 100}, {500, most}, {1, most}, {65535, 65536}, {most, most}} {
		for _, start := range starts {
			bound, largest := int64(0), int64(1)
			run(r, moved(made(t, b[0], b[1], uint64(r.Intn(12)), uint64(r.Intn(9))), start), 3000, func(before, after api.Dql, c turn) {
				if c.queue {
					largest = max(largest, int64(c.n))
					bound = int64(before.Limit) + largest - 1
				}
				if !Right(after) || after.Limit < b[0] || after.Limit > b[1] {
					t.Fatalf("%+v became %+v", before, after)
				}
				if int64(Flight(after)) > bound {
					t.Fatalf("%d in flight, at most %d are allowed: %+v", Flight(after), bound, after)
				}
				if after.Limit > before.Limit {
					rose++
				}
				if after.Limit < before.Limit {
					fell++
				}
				if after.Queued < before.Queued || after.Completed < before.Completed {
					wrapped++
				}
			})
		}
	}
	if rose < 1000 || fell < 1000 || wrapped < 20 {
		t.Errorf("limits rose %d times and fell %d times, counts wrapped %d times", rose, fell, wrapped)
	}
}

// P4.3 with T2: nothing depends on where the counts begin.
func TestAnyStart(t *testing.T) {
	for seed := range int64(20) {
		for _, start := range starts {
			var want []api.Dql
			run(rand.New(rand.NewSource(seed)), made(t, 10, 5000, 4, 3), 400, func(_, after api.Dql, _ turn) { want = append(want, after) })
			at := 0
			run(rand.New(rand.NewSource(seed)), moved(made(t, 10, 5000, 4, 3), start), 400, func(_, after api.Dql, _ turn) {
				if after != moved(want[at], start) {
					t.Fatalf("seed %d, from %d, call %d: %+v, want %+v", seed, start, at, after, moved(want[at], start))
				}
				at++
			})
		}
	}
}

// R2 and R4: a refused call and an answered one leave the state that was handed in as it was, so that the same call answers the same again.
func TestSameAgain(t *testing.T) {
	d := busy(last - 3)
	before := d
	for range 2 {
		if x, e := Queue(d, 65536); x != (api.Dql{}) || e != api.ErrCount {
			t.Errorf("%+v, %d", x, e)
		}
		if x, e := Complete(d, 41, 9); x != (api.Dql{}) || e != api.ErrCount {
			t.Errorf("%+v, %d", x, e)
		}
		if x, e := Complete(d, 40, 9); x != byWords(d, 40, 9) || e != api.OK {
			t.Errorf("%+v, %d", x, e)
		}
		if d != before {
			t.Errorf("%+v", d)
		}
	}
}

// The check of bounds takes any count of numbers, equal ones too, and numbers of 64 bits.
func TestRising(t *testing.T) {
	if !rising[uint32]() || !rising[uint32](7) || !rising[uint32](1, 1, 2, last) || !rising[uint64](0, last, last+1, ever) {
		t.Error("what rises is refused")
	}
	if rising[uint32](2, 1) || rising[uint32](1, 3, 2) || rising[uint32](1, 0, 5) || rising[uint64](last+1, 1) {
		t.Error("what falls is taken")
	}
}

// The visit of steps keeps their order, can be left early and gone through again.
func TestEach(t *testing.T) {
	marked := func(n uint32) step {
		return func(d api.Dql) (api.Dql, bool) {
			d.Last = n
			return d, true
		}
	}
	visit := each(marked(1), marked(2), marked(3))
	for range 2 {
		for _, stop := range []uint32{1, 2, 3} {
			want := uint32(0)
			for s := range visit {
				want++
				if d, _ := s(api.Dql{}); d.Last != want {
					t.Fatalf("step %d where %d stands", d.Last, want)
				}
				if want == stop {
					break
				}
			}
			if want != stop {
				t.Errorf("left at %d, not at %d", want, stop)
			}
		}
	}
}
