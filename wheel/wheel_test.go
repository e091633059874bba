package wheel

import (
	"cmp"
	"math"
	"math/rand"
	"slices"
	"testing"

	"waymaster/api"
)

const (
	end  = 9223372036854775807 // the last time
	most = 1000                // how many timers there may be
)

// keys are negative, far apart, and neighbours; differences of some do not fit into an int.
var keys = []int{math.MinInt, math.MinInt + 1, math.MinInt32, -1000, -2, -1, 0, 1, 2, 7, 9, 1000, math.MaxInt32, math.MaxInt - 1, math.MaxInt}

// times are valid ones, at each edge and between.
var times = []uint64{0, 1, 2, 3, 5, 1000, 1 << 32, 1 << 62, end - 1, end}

// wrongTimes are greater than the last one.
var wrongTimes = []uint64{end + 1, end + 2, 1<<63 + 1<<32, math.MaxUint64 - 1, math.MaxUint64}

// model is what a wheel must do, told by a list in which each key stands at most once.
type model struct {
	now  uint64
	list []api.Timer
}

func (m *model) place(key int) int {
	return slices.IndexFunc(m.list, func(t api.Timer) bool { return t.Key == key })
}

func (m *model) set(at uint64, key int) api.Errno {
	i := m.place(key)
	switch {
	case at > 9223372036854775807:
		return api.ErrTime
	case i < 0 && len(m.list) == 1000:
		return api.ErrMany
	case i < 0:
		m.list = append(m.list, api.Timer{At: at, Key: key})
	default:
		m.list[i].At = at
	}
	return api.OK
}

func (m *model) cancel(key int) bool {
	i := m.place(key)
	if i < 0 {
		return false
	}
	m.list = slices.Delete(m.list, i, i+1)
	return true
}

func (m *model) all() []api.Timer { return sorted(m.list) }

func (m *model) turn(now uint64) ([]api.Timer, api.Errno) {
	if now < m.now || now > 9223372036854775807 {
		return nil, api.ErrTime
	}
	m.now = now
	var due, left []api.Timer
	for _, t := range m.all() {
		if t.At <= now {
			due = append(due, t)
		} else {
			left = append(left, t)
		}
	}
	m.list = left
	return due, api.OK
}

// sorted is timers in their order, by other means than the program's.
func sorted(l []api.Timer) []api.Timer {
	l = slices.Clone(l)
	slices.SortFunc(l, func(a, b api.Timer) int { return cmp.Or(cmp.Compare(a.At, b.At), cmp.Compare(a.Key, b.Key)) })
	return l
}

// pair is a wheel beside its model.
type pair struct {
	t *testing.T
	w *Wheel
	m model
}

func newPair(t *testing.T, now uint64) *pair {
	t.Helper()
	p := &pair{t, New(now), model{now: now}}
	p.look()
	return p
}

// filled is a wheel of n timers with the keys 0 to n-1, the later keys having the earlier times.
func filled(t *testing.T, n int) *pair {
	t.Helper()
	p := newPair(t, 1)
	for key := range n {
		p.set(uint64(100+n-key), key)
	}
	p.look()
	return p
}

// look asks that the wheel tells what it must, and twice the same.
func (p *pair) look() {
	p.t.Helper()
	for range 2 {
		all := p.m.all()
		if got := p.w.All(); !slices.Equal(got, all) {
			p.t.Fatalf("All() = %v, want %v", got, all)
		}
		if got := p.w.Now(); got != p.m.now {
			p.t.Fatalf("Now() = %d, want %d", got, p.m.now)
		}
		var first api.Timer
		if len(all) > 0 {
			first = all[0]
		}
		if got, ok := p.w.Next(); got != first || ok != (len(all) > 0) {
			p.t.Fatalf("Next() = %v, %v, want %v of %d", got, ok, first, len(all))
		}
	}
}

func (p *pair) set(at uint64, key int) api.Errno {
	p.t.Helper()
	got, want := p.w.Set(at, key), p.m.set(at, key)
	if got != want {
		p.t.Fatalf("Set(%d, %d) of %d timers = %d, want %d", at, key, len(p.m.list), got, want)
	}
	return got
}

func (p *pair) cancel(key int) bool {
	p.t.Helper()
	got, want := p.w.Cancel(key), p.m.cancel(key)
	if got != want {
		p.t.Fatalf("Cancel(%d) = %v, want %v", key, got, want)
	}
	return got
}

func (p *pair) turn(now uint64) ([]api.Timer, api.Errno) {
	p.t.Helper()
	clock := p.m.now
	got, e := p.w.Turn(now)
	want, code := p.m.turn(now)
	if !slices.Equal(got, want) || e != code {
		p.t.Fatalf("Turn(%d) at %d = %v, %d, want %v, %d", now, clock, got, e, want, code)
	}
	return got, e
}

// refusesTurn asks that turning to a time is ErrTime and changes nothing.
func (p *pair) refusesTurn(now uint64) {
	p.t.Helper()
	if l, e := p.w.Turn(now); len(l) != 0 || e != api.ErrTime {
		p.t.Fatalf("Turn(%d) at %d = %v, %d", now, p.m.now, l, e)
	}
	p.look()
}

// refusesSet asks that setting is an error, the one that is told, and changes nothing.
func (p *pair) refusesSet(at uint64, key int, code api.Errno) {
	p.t.Helper()
	if e := p.w.Set(at, key); e != code {
		p.t.Fatalf("Set(%d, %d) of %d timers = %d, want %d", at, key, len(p.m.list), e, code)
	}
	p.look()
}

// P6.1, New: any number is a clock, those beyond the last time too; there are no timers.
func TestNew(t *testing.T) {
	for _, now := range append(slices.Clone(times), wrongTimes...) {
		w := New(now)
		if w == nil {
			t.Fatalf("New(%d) is nil", now)
		}
		if got := w.Now(); got != now {
			t.Errorf("New(%d).Now() = %d", now, got)
		}
		if l := w.All(); len(l) != 0 {
			t.Errorf("New(%d).All() = %v", now, l)
		}
		if x, ok := w.Next(); x != (api.Timer{}) || ok {
			t.Errorf("New(%d).Next() = %v, %v", now, x, ok)
		}
		if w.Cancel(0) || w.Cancel(1) {
			t.Errorf("New(%d): a timer is cancelled where there is none", now)
		}
	}
}

// P6.1 and P6.2: the document's examples, written out.
func TestExamples(t *testing.T) {
	w := New(0)
	for _, x := range []api.Timer{{At: 5, Key: 7}, {At: 3, Key: 9}, {At: 9, Key: 9}} {
		if e := w.Set(x.At, x.Key); e != api.OK {
			t.Errorf("Set(%v) = %d", x, e)
		}
	}
	if l := w.All(); !slices.Equal(l, []api.Timer{{At: 5, Key: 7}, {At: 9, Key: 9}}) {
		t.Errorf("All() = %v", l)
	}
	w = New(0)
	for _, x := range []api.Timer{{At: 5, Key: 7}, {At: 3, Key: 9}, {At: 5, Key: 2}} {
		if e := w.Set(x.At, x.Key); e != api.OK {
			t.Errorf("Set(%v) = %d", x, e)
		}
	}
	if l, e := w.Turn(5); !slices.Equal(l, []api.Timer{{At: 3, Key: 9}, {At: 5, Key: 2}, {At: 5, Key: 7}}) || e != api.OK {
		t.Errorf("Turn(5) = %v, %d", l, e)
	}
	if l, now := w.All(), w.Now(); len(l) != 0 || now != 5 {
		t.Errorf("afterwards: All() = %v, Now() = %d", l, now)
	}
}

// P6.1, P6.2 and R4: every call on a nil wheel, and on one that no call has returned: ErrNil comes ahead of ErrTime.
func TestNil(t *testing.T) {
	for _, w := range []*Wheel{nil, {}} {
		for range 2 {
			for _, at := range append(slices.Clone(times), wrongTimes...) {
				for _, key := range keys {
					if e := w.Set(at, key); e != api.ErrNil {
						t.Errorf("Set(%d, %d) = %d", at, key, e)
					}
					if w.Cancel(key) {
						t.Errorf("Cancel(%d) = true", key)
					}
				}
				if l, e := w.Turn(at); len(l) != 0 || e != api.ErrNil {
					t.Errorf("Turn(%d) = %v, %d", at, l, e)
				}
			}
			if x, ok := w.Next(); x != (api.Timer{}) || ok {
				t.Errorf("Next() = %v, %v", x, ok)
			}
			if now := w.Now(); now != 0 {
				t.Errorf("Now() = %d", now)
			}
			if l := w.All(); len(l) != 0 {
				t.Errorf("All() = %v", l)
			}
		}
	}
}

// P6.1, Set: every valid time, for every key, at every clock: those that the clock is past too.
func TestSet(t *testing.T) {
	for _, now := range []uint64{0, 4, end, end + 1, math.MaxUint64} {
		p := newPair(t, now)
		for i, at := range times {
			for j, key := range keys {
				if e := p.set(times[(i+j)%len(times)], key); e != api.OK {
					t.Fatalf("Set: %d", e)
				}
				p.look()
				if e := p.set(at, key); e != api.OK {
					t.Fatalf("Set(%d, %d) = %d", at, key, e)
				}
				p.look()
			}
			if len(p.m.list) != len(keys) {
				t.Fatalf("%d timers", len(p.m.list))
			}
		}
	}
}

// P6.1, Set: a time beyond the last one is ErrTime, whether the key has a timer or not, and its timer stays as it was.
func TestSetWrongTime(t *testing.T) {
	p := newPair(t, 3)
	p.set(end, 7)
	p.set(0, -7)
	for _, at := range wrongTimes {
		for _, key := range []int{7, -7, 0, math.MinInt, math.MaxInt} {
			p.refusesSet(at, key, api.ErrTime)
		}
	}
	for _, now := range wrongTimes { // the clock does not make such a time valid
		p := newPair(t, now)
		p.refusesSet(now, 1, api.ErrTime)
		p.set(end, 1)
		p.refusesSet(end+1, 1, api.ErrTime)
	}
}

// P6.1, Set: a key that is set again, to an earlier, to a later and to the same time, has the new timer alone.
func TestSetAgain(t *testing.T) {
	for _, at := range []uint64{0, 1, 4, 5, 6, 9, 10, 11, end} {
		p := newPair(t, 0)
		p.set(5, 1)
		p.set(5, 2)
		p.set(9, 3)
		p.set(at, 2)
		p.look()
		if len(p.w.All()) != 3 {
			t.Errorf("set to %d: %v", at, p.w.All())
		}
		p.turn(5)
		p.look()
		p.turn(end)
		p.look()
		if len(p.m.list) != 0 {
			t.Errorf("left: %v", p.m.list)
		}
	}
}

// P6.1, Set: 999, 1000 and 1001 timers; a key that has one may be set where there are 1000; there is room again after cancelling and after turning.
func TestMostTimers(t *testing.T) {
	p := filled(t, most-1)
	if e := p.set(1, -5); e != api.OK {
		t.Errorf("the 1000th: %d", e)
	}
	p.look()
	for _, key := range []int{-6, most, math.MinInt, math.MaxInt} {
		for _, at := range times {
			p.refusesSet(at, key, api.ErrMany)
		}
		for _, at := range wrongTimes {
			p.refusesSet(at, key, api.ErrTime) // it comes ahead of ErrMany
			p.refusesSet(at, -5, api.ErrTime)
		}
	}
	for _, key := range []int{-5, 0, 1, 500, most - 2} {
		for _, at := range []uint64{0, 600, end} {
			if e := p.set(at, key); e != api.OK {
				t.Errorf("Set(%d, %d) of a key that has a timer: %d", at, key, e)
			}
			p.look()
		}
	}
	if p.cancel(-6) {
		t.Error("a timer that was refused is there")
	}
	p.refusesSet(1, -6, api.ErrMany)
	p.cancel(500)
	if e := p.set(1, -6); e != api.OK {
		t.Errorf("after cancelling: %d", e)
	}
	p.refusesSet(1, 500, api.ErrMany)
	if l, _ := p.turn(1); len(l) != 1 {
		t.Errorf("due: %v", l)
	}
	if e := p.set(1, 500); e != api.OK {
		t.Errorf("after turning: %d", e)
	}
	p.refusesSet(1, -6, api.ErrMany)
	p.look()
}

// P6.1, Set: setting one key over and over takes the place of one timer.
func TestOneKeyOverAndOver(t *testing.T) {
	p := newPair(t, 0)
	for n := range 3 * most {
		p.set(uint64(n*7919%5000), -3)
	}
	if l := p.w.All(); len(l) != 1 {
		t.Errorf("All() = %v", l)
	}
	for key := range most - 1 {
		p.set(1, key)
	}
	p.refusesSet(1, most, api.ErrMany)
}

// P6.1, Cancel: it removes the key's timer and no other, tells whether there was one, and a key may be set again.
func TestCancel(t *testing.T) {
	for _, key := range keys {
		p := newPair(t, 2)
		if p.cancel(key) {
			t.Errorf("Cancel(%d) without timers", key)
		}
		for i, k := range keys {
			p.set(times[i%len(times)], k)
		}
		if !p.cancel(key) || p.cancel(key) {
			t.Errorf("Cancel(%d) twice", key)
		}
		p.look()
		if p.cancel(12345) {
			t.Error("Cancel of a key that was never set")
		}
		p.look()
		p.set(4, key)
		p.look()
		if !p.cancel(key) {
			t.Errorf("Cancel(%d) after setting it again", key)
		}
		p.set(end, key)
		p.turn(end - 1)
		p.look()
		if l, e := p.turn(end); e != api.OK || !slices.Contains(l, api.Timer{At: end, Key: key}) {
			t.Errorf("due: %v", l)
		}
		if p.cancel(key) {
			t.Errorf("Cancel(%d) of a timer that was due", key)
		}
		p.look()
	}
}

// P6.1: cancelling on a wheel that was emptied, and one that is full.
func TestCancelAll(t *testing.T) {
	p := filled(t, most)
	for i := range most {
		if !p.cancel(i * 7 % most) {
			t.Fatalf("Cancel(%d)", i*7%most)
		}
	}
	p.look()
	for i := range most {
		if p.cancel(i) {
			t.Fatalf("Cancel(%d) again", i)
		}
	}
	if l, e := p.turn(end); len(l) != 0 || e != api.OK {
		t.Errorf("Turn: %v, %d", l, e)
	}
}

// P6.2, Turn: the edges of the time: the clock itself, one less, the last time, one more.
func TestTurnTimes(t *testing.T) {
	for _, now := range times {
		for _, to := range append(slices.Clone(times), wrongTimes...) {
			p := newPair(t, now)
			p.set(end, 1)
			p.set(0, 2)
			p.set(now, 3)
			if to < now || to > 9223372036854775807 {
				p.refusesTurn(to)
				continue
			}
			if _, e := p.turn(to); e != api.OK {
				t.Errorf("Turn(%d) at %d = %d", to, now, e)
			}
			p.look()
			p.turn(to)
			p.look()
			if to > 0 {
				p.refusesTurn(to - 1)
			}
			p.refusesTurn(end + 1)
		}
	}
}

// P6.2, Turn: a clock beyond the last time can not be turned, not to itself either; its timers stay.
func TestClockBeyond(t *testing.T) {
	for _, now := range wrongTimes {
		p := newPair(t, now)
		p.set(0, 1)
		p.set(end, 2)
		for _, to := range append(slices.Clone(times), wrongTimes...) {
			p.refusesTurn(to)
		}
		if !p.cancel(1) || !p.cancel(2) {
			t.Error("Cancel")
		}
		p.look()
	}
}

// P6.2, Turn: timers one earlier than the time, at it, and one later; those that the clock was past when they were set are due by turning to the clock itself.
func TestTurnDue(t *testing.T) {
	for _, to := range []uint64{1, 10, 1 << 32, end - 1} {
		p := newPair(t, to)
		p.set(to+1, 1)
		p.set(to, 2)
		p.set(to-1, 3)
		p.set(0, 4)
		p.look()
		if l, e := p.turn(to); len(l) != 3 || e != api.OK {
			t.Errorf("Turn(%d) = %v, %d", to, l, e)
		}
		p.look()
		if l, _ := p.turn(to); len(l) != 0 {
			t.Errorf("Turn(%d) again = %v", to, l)
		}
		if l, _ := p.turn(to + 1); !slices.Equal(l, []api.Timer{{At: to + 1, Key: 1}}) {
			t.Errorf("Turn(%d) = %v", to+1, l)
		}
		p.look()
	}
}

// P6.2, Turn: without timers, and up to a time at which nothing is due, it moves the clock alone.
func TestTurnNothing(t *testing.T) {
	p := newPair(t, 0)
	for _, now := range times {
		if l, e := p.turn(now); len(l) != 0 || e != api.OK {
			t.Errorf("Turn(%d) = %v, %d", now, l, e)
		}
		p.look()
	}
	p = newPair(t, 0)
	p.set(1000, 1)
	for _, now := range []uint64{0, 1, 999} {
		if l, e := p.turn(now); len(l) != 0 || e != api.OK {
			t.Errorf("Turn(%d) = %v, %d", now, l, e)
		}
		p.look()
	}
}

// P6.2: the order of timers of one time is by their keys, negative ones and those that are far apart too, in whichever order they were set.
func TestOrder(t *testing.T) {
	r := rand.New(rand.NewSource(61))
	want := make([]api.Timer, 0, 2*len(keys))
	for _, key := range keys {
		want = append(want, api.Timer{At: 8, Key: key})
	}
	for range 200 {
		w := New(0)
		for _, i := range r.Perm(len(keys)) {
			w.Set(8, keys[i])
		}
		if l := w.All(); !slices.Equal(l, want) {
			t.Fatalf("All() = %v", l)
		}
		if x, ok := w.Next(); x != want[0] || !ok {
			t.Fatalf("Next() = %v, %v", x, ok)
		}
		if l, e := w.Turn(7); len(l) != 0 || e != api.OK {
			t.Fatalf("Turn(7) = %v, %d", l, e)
		}
		if l, e := w.Turn(8); !slices.Equal(l, want) || e != api.OK {
			t.Fatalf("Turn(8) = %v, %d", l, e)
		}
	}
	p := newPair(t, 0)
	for i, key := range keys { // times that fall while keys rise: the time counts first
		p.set(uint64(end-i), key)
	}
	p.look()
	p.turn(end)
}

// P6.2: every count of timers comes out in order, up to the most there may be, however many have one time.
func TestEveryCount(t *testing.T) {
	r := rand.New(rand.NewSource(62))
	for n := range 70 {
		for _, span := range []int64{1, 3, 20, 1 << 40, end} {
			p := newPair(t, 0)
			for len(p.m.list) < n {
				p.set(uint64(r.Int63n(span)), r.Intn(4*n)-2*n)
			}
			p.look()
			p.turn(uint64(r.Int63n(span)))
			p.look()
			p.turn(end)
			p.look()
		}
	}
	for _, n := range []int{999, 1000} {
		for _, span := range []int64{1, 30, end} {
			p := newPair(t, 0)
			for len(p.m.list) < n {
				p.set(uint64(r.Int63n(span)), int(r.Uint64()))
			}
			p.look()
			p.turn(uint64(r.Int63n(span)))
			p.look()
		}
	}
}

// P6.2, R3: what All and Turn answer is new memory, and stays as it was when the wheel goes on.
func TestAnswersAreNew(t *testing.T) {
	p := filled(t, 9)
	a, b, want := p.w.All(), p.w.All(), p.m.all()
	spoiled := a[:cap(a)]
	for i := range spoiled {
		spoiled[i] = api.Timer{At: 1, Key: 77}
	}
	if !slices.Equal(b, want) {
		t.Error("two answers share memory")
	}
	p.look()
	due, _ := p.turn(104)
	kept := slices.Clone(due)
	p.set(1, 3)
	p.turn(106)
	p.set(200, 4)
	p.look()
	if !slices.Equal(due, kept) || !slices.Equal(b, want) {
		t.Error("an answer changed while the wheel went on")
	}
	spoiled = due[:cap(due)]
	for i := range spoiled {
		spoiled[i] = api.Timer{At: 1, Key: 77}
	}
	p.look()
	p.turn(end)
	p.look()
}

// R4: wheels do not share anything.
func TestTwoWheels(t *testing.T) {
	a, b := newPair(t, 0), newPair(t, 0)
	a.set(5, 1)
	b.look()
	b.set(6, 1)
	a.look()
	b.turn(6)
	a.look()
	a.cancel(1)
	b.look()
}

// P6.1 and P6.2: many operations in a mixed order, from fixed seeds, with wrong ones among them.
func TestMany(t *testing.T) {
	r := rand.New(rand.NewSource(63))
	for _, spread := range []int{1, 3, 12, 100, 3000} {
		p := newPair(t, uint64(r.Intn(5)))
		for range 4000 {
			key, step := r.Intn(spread)-spread/2, uint64(r.Intn(12))
			switch r.Intn(12) {
			case 0:
				p.turn(p.m.now + step/4)
			case 1:
				p.turn(p.m.now - step) // to the clock, back, or around the end of the numbers
			case 2, 3:
				p.cancel(key)
			case 4:
				p.set(end+step, key)
			default:
				p.set(p.m.now+uint64(spread)*step/8, key)
			}
			if spread < 1000 || r.Intn(20) == 0 {
				p.look()
			}
		}
		p.turn(end)
		p.look()
	}
}

// stepsTo are rising times up to one: each step of a turn that is made in several.
func stepsTo(r *rand.Rand, now, to uint64) []uint64 {
	var l []uint64
	for range r.Intn(12) {
		l = append(l, now+uint64(r.Int63n(int64(to-now)+1)))
	}
	l = append(l, now, to)
	slices.Sort(l)
	return l
}

// P6.3: turning in several steps tells the same timers in the same order as turning at once, and leaves the same behind; each timer is told once, at a step that is the first to reach it.
func TestSteps(t *testing.T) {
	r := rand.New(rand.NewSource(64))
	for round := range 600 {
		span := []int64{1, 4, 50, 1 << 50, end}[round%5]
		now := uint64(r.Int63n(span))
		to := now + uint64(r.Int63n(span-int64(now)))
		once, often := New(now), New(now)
		var set []api.Timer
		for i := range r.Intn(60) {
			x := api.Timer{At: uint64(r.Int63n(span)), Key: (i - 30) * 1000003}
			set = append(set, x)
			once.Set(x.At, x.Key)
			often.Set(x.At, x.Key)
		}
		want, _ := once.Turn(to)
		var got []api.Timer
		for _, step := range stepsTo(r, now, to) {
			l, e := often.Turn(step)
			if e != api.OK || often.Now() != step {
				t.Fatalf("Turn(%d) = %d, Now() = %d", step, e, often.Now())
			}
			for _, x := range often.All() {
				if x.At <= step {
					t.Fatalf("Turn(%d) left %v", step, x)
				}
			}
			got = append(got, l...)
		}
		if !slices.Equal(got, want) || !slices.Equal(often.All(), once.All()) {
			t.Fatalf("to %d: in steps %v, at once %v", to, got, want)
		}
		if !slices.Equal(append(got, often.All()...), sorted(set)) {
			t.Fatalf("to %d: %v was set, %v told", to, set, got)
		}
	}
}

// P6.3: each timer is told once, though keys are set again, cancelled, and set again after they were told.
func TestOnce(t *testing.T) {
	r := rand.New(rand.NewSource(65))
	w := New(0)
	live := map[int]uint64{}
	set, told, replaced, cancelled := 0, 0, 0, 0
	take := func(now uint64) {
		l, e := w.Turn(now)
		if e != api.OK {
			t.Fatalf("Turn(%d) = %d", now, e)
		}
		for _, x := range l {
			if at, ok := live[x.Key]; !ok || at != x.At {
				t.Fatalf("Turn(%d) tells %v, which is not there", now, x)
			}
			delete(live, x.Key)
			told++
		}
	}
	for now := range uint64(3000) {
		for range r.Intn(4) {
			key, at := r.Intn(40)-20, now+uint64(r.Intn(30))-min(now, 5)
			if w.Set(at, key) != api.OK {
				t.Fatal("Set")
			}
			if _, ok := live[key]; ok {
				replaced++
			}
			live[key] = at
			set++
		}
		if w.Cancel(int(now%50) - 20) {
			delete(live, int(now%50)-20)
			cancelled++
		}
		take(now)
	}
	take(end)
	if len(live) != 0 || told != set-replaced-cancelled || told < 1000 {
		t.Errorf("%d set, %d replaced, %d cancelled, %d told, left: %v", set, replaced, cancelled, told, live)
	}
}

// R7: the visit of timers can be left early and gone through again, and tells what was there when it started.
func TestInOrder(t *testing.T) {
	p := filled(t, 20)
	want := p.m.all()
	for left := range len(want) + 1 {
		var got []api.Timer
		for x := range p.w.inOrder {
			if len(got) == left {
				break
			}
			got = append(got, x)
		}
		if !slices.Equal(got, want[:left]) {
			t.Errorf("left after %d: %v", left, got)
		}
	}
	p.look()
	var got []api.Timer
	for x := range p.w.inOrder {
		p.cancel(x.Key)
		got = append(got, x)
	}
	if !slices.Equal(got, want) {
		t.Errorf("visited %v", got)
	}
	p.look()
}
