package bucket

import (
	"math"
	"math/big"
	"math/bits"
	"math/rand"
	"testing"

	"waymaster/api"
)

const (
	fastest = 1099511627776       // the greatest Rate
	most    = 1073741824          // the greatest Burst
	end     = 9223372036854775807 // the last time
	second  = 1000000000
)

// made is New's bucket, which must be.
func made(t *testing.T, rate uint64, burst int64, now uint64) api.Bucket {
	t.Helper()
	b, e := New(rate, burst, now)
	if e != api.OK {
		t.Fatalf("New(%d, %d, %d): %d", rate, burst, now, e)
	}
	return b
}

// taken is a bucket after taking, which must be allowed.
func taken(t *testing.T, b api.Bucket, n int64) api.Bucket {
	t.Helper()
	x, ok, e := Take(b, n)
	if !ok || e != api.OK {
		t.Fatalf("Take(%+v, %d): %v, %d", b, n, ok, e)
	}
	return x
}

// ordinary is a valid bucket by hand.
func ordinary() api.Bucket {
	return api.Bucket{Rate: 1000, Burst: 500, Level: -20, Rem: 7, At: 100}
}

// edges are valid buckets, each field of which is at one of its edges.
func edges() []api.Bucket {
	var l []api.Bucket
	for _, rate := range []uint64{0, 1, 1000, fastest - 1, fastest} {
		for _, burst := range []int64{1, 2, 10, most - 1, most} {
			for _, level := range []int64{burst, burst - 1, 1, 0, -1, -most + 1, -most} {
				for _, rem := range []uint64{0, 1, 500000000, 999999998, 999999999} {
					for _, at := range []uint64{0, 1, 1 << 32, end - 1, end} {
						l = append(l, api.Bucket{Rate: rate, Burst: burst, Level: level, Rem: rem, At: at})
					}
				}
			}
		}
	}
	return l
}

// wrongBuckets are buckets each of which breaks one bound of those that are valid, and some that break several.
func wrongBuckets() []api.Bucket {
	l := []api.Bucket{{}, {Rate: math.MaxUint64, Burst: math.MinInt64, Level: math.MaxInt64, Rem: math.MaxUint64, At: math.MaxUint64}}
	broken := func(change func(b *api.Bucket)) {
		for _, b := range []api.Bucket{ordinary(), {Burst: 1, Level: 1}, {Rate: fastest, Burst: most, Level: most, Rem: 999999999, At: end}} {
			change(&b)
			l = append(l, b)
		}
	}
	for _, rate := range []uint64{fastest + 1, 2 * fastest, 1 << 63, math.MaxUint64} {
		broken(func(b *api.Bucket) { b.Rate = rate })
	}
	for _, burst := range []int64{0, -1, -most, math.MinInt64, most + 1, 1 << 31, 1 << 32, math.MaxInt64} {
		broken(func(b *api.Bucket) { b.Burst, b.Level = burst, burst })
		broken(func(b *api.Bucket) { b.Burst, b.Level = burst, min(0, burst) })
		broken(func(b *api.Bucket) { b.Burst, b.Level = burst, -most })
	}
	for _, more := range []int64{1, 2, most, math.MaxInt64 - most} {
		broken(func(b *api.Bucket) { b.Level = b.Burst + more })
	}
	for _, level := range []int64{-most - 1, -1 << 32, math.MinInt64} {
		broken(func(b *api.Bucket) { b.Level = level })
	}
	for _, rem := range []uint64{second, second + 1, 1 << 32, math.MaxUint64} {
		broken(func(b *api.Bucket) { b.Rem = rem })
	}
	for _, at := range []uint64{end + 1, end + 2, math.MaxUint64} {
		broken(func(b *api.Bucket) { b.At = at })
	}
	return l
}

// P5.1, New: every field of the bucket, at ordinary numbers and at each edge, and the numbers that are wrong by one and by much.
func TestNew(t *testing.T) {
	for _, rate := range []uint64{0, 1, 1000, fastest - 1, fastest, fastest + 1, 1 << 63, math.MaxUint64} {
		for _, burst := range []int64{math.MinInt64, -most, -1, 0, 1, 2, 10, most - 1, most, most + 1, 1 << 32, math.MaxInt64} {
			for _, now := range []uint64{0, 1, 77, end - 1, end, end + 1, math.MaxUint64} {
				want, code := api.Bucket{Rate: rate, Burst: burst, Level: burst, Rem: 0, At: now}, api.OK
				if rate > 1099511627776 || burst < 1 || burst > 1073741824 || now > 9223372036854775807 {
					want, code = api.Bucket{}, api.ErrArg
				}
				if b, e := New(rate, burst, now); b != want || e != code {
					t.Errorf("New(%d, %d, %d) = %+v, %d, want %+v, %d", rate, burst, now, b, e, want, code)
				}
			}
		}
	}
}

// P5.1, Right: buckets at the edges of what is valid, and those that break a bound.
func TestRight(t *testing.T) {
	for _, b := range append(edges(), ordinary()) {
		if !Right(b) {
			t.Errorf("Right(%+v) = false", b)
		}
	}
	for _, b := range wrongBuckets() {
		if Right(b) {
			t.Errorf("Right(%+v) = true", b)
		}
	}
}

// The document's examples of P5.1 and P5.2.
func TestExamples(t *testing.T) {
	b, e := Fill(api.Bucket{Rate: 1000, Burst: 10, Level: -20}, 20500000)
	if b != (api.Bucket{Rate: 1000, Burst: 10, Level: 0, Rem: 500000000, At: 20500000}) || e != api.OK {
		t.Errorf("%+v, %d", b, e)
	}
	b = taken(t, made(t, 1000, 10, 0), 30)
	if b != (api.Bucket{Rate: 1000, Burst: 10, Level: -20}) {
		t.Errorf("%+v", b)
	}
	if at, e := Next(b); at != 21000000 || e != api.OK {
		t.Errorf("%d, %d", at, e)
	}
}

// P5.1, Fill: worked cases, every field told.
func TestFill(t *testing.T) {
	for _, c := range []struct {
		name       string
		b          api.Bucket
		now        uint64
		level, rem int64
	}{
		{"at its own time", ordinary(), 100, -20, 7},
		{"a byte's time", ordinary(), 1000100, -19, 7},
		{"all but a nanosecond of a byte's time", ordinary(), 1000099, -20, 999999007},
		{"the remainder fills a byte", api.Bucket{Rate: 1, Burst: 5, Level: 0, Rem: 999999999}, 1, 1, 0},
		{"the remainder does not", api.Bucket{Rate: 1, Burst: 5, Level: 0, Rem: 999999998}, 1, 0, 999999999},
		{"the remainder fills the last byte", api.Bucket{Rate: 1, Burst: 5, Level: 4, Rem: 999999999}, 1, 5, 0},
		{"to one byte less than Burst", api.Bucket{Rate: 3, Burst: 10, Level: -20}, 9999999999, 9, 999999997},
		{"to Burst", api.Bucket{Rate: 3, Burst: 10, Level: -20}, 10000000000, 10, 0},
		{"to Burst, with a remainder that is lost", api.Bucket{Rate: 3, Burst: 10, Level: -20}, 10000000001, 10, 0},
		{"to more than Burst", api.Bucket{Rate: 3, Burst: 10, Level: -20}, 11000000000, 10, 0},
		{"full, at its own time", api.Bucket{Rate: 3, Burst: 10, Level: 10, Rem: 5, At: 9}, 9, 10, 0},
		{"full, later", api.Bucket{Rate: 3, Burst: 10, Level: 10, Rem: 5, At: 9}, 10, 10, 0},
		{"not full, at its own time", api.Bucket{Rate: 3, Burst: 10, Level: 9, Rem: 999999999, At: 9}, 9, 9, 999999999},
		{"Rate 0, at its own time", api.Bucket{Rate: 0, Burst: 10, Level: -20, Rem: 5, At: 9}, 9, 10, 0},
		{"Rate 0, later", api.Bucket{Rate: 0, Burst: 10, Level: -20, Rem: 5, At: 9}, 10, 10, 0},
		{"Rate 0, at the end", api.Bucket{Rate: 0, Burst: 10, Level: 3, Rem: 5, At: 9}, end, 10, 0},
		{"Rate 1 for all times", api.Bucket{Rate: 1, Burst: most, Level: -most}, end, most, 0},
		{"Rate 1 to one byte less than Burst", api.Bucket{Rate: 1, Burst: most, Level: -most}, 2*most*second - 1, most - 1, 999999999},
		{"Rate 1 to Burst", api.Bucket{Rate: 1, Burst: most, Level: -most}, 2 * most * second, most, 0},
		{"the greatest Rate for all times", api.Bucket{Rate: fastest, Burst: most, Level: -most, Rem: 999999999}, end, most, 0},
		{"the greatest Rate for a nanosecond", api.Bucket{Rate: fastest, Burst: most, Level: -most}, 1, -most + 1099, 511627776},
		{"the greatest Rate to one byte less than Burst", api.Bucket{Rate: fastest, Burst: 1099, Level: -1, Rem: 0}, 1, 1098, 511627776},
		{"the greatest Rate to Burst", api.Bucket{Rate: fastest, Burst: 1099, Level: 0, Rem: 0}, 1, 1099, 0},
		{"from the last time", api.Bucket{Rate: fastest, Burst: 10, Level: -5, Rem: 3, At: end}, end, -5, 3},
		{"from the last but one", api.Bucket{Rate: 7, Burst: 10, Level: -5, Rem: 3, At: end - 1}, end, -5, 10},
	} {
		want := c.b
		want.Level, want.Rem, want.At = c.level, uint64(c.rem), c.now
		if b, e := Fill(c.b, c.now); b != want || e != api.OK {
			t.Errorf("%s: Fill(%+v, %d) = %+v, %d, want %+v", c.name, c.b, c.now, b, e, want)
		}
	}
}

// P5.1, Fill: where the gain is of about 2^64 bytes and its multiples, nothing of it is cut off.
func TestFillGreat(t *testing.T) {
	b := api.Bucket{Rate: fastest, Burst: most, Level: -most}
	for k := uint64(1); k <= 500; k++ {
		// 2^64 bytes and its multiples come in this many nanoseconds
		now := k * second << 24
		if now > end {
			break
		}
		for _, t2 := range []uint64{now - 1, now, now + 1} {
			want := b
			want.Level, want.At = most, t2
			if x, e := Fill(b, t2); x != want || e != api.OK {
				t.Fatalf("Fill(%+v, %d) = %+v, %d", b, t2, x, e)
			}
		}
	}
}

// P5.1, Fill: a wrong bucket is told ahead of a wrong time; a time that is At is right, one less by one is not, nor one after the last.
func TestFillWrong(t *testing.T) {
	for _, b := range wrongBuckets() {
		for _, now := range []uint64{0, b.At - 1, b.At, b.At + 1, end, end + 1, math.MaxUint64} {
			if x, e := Fill(b, now); x != (api.Bucket{}) || e != api.ErrArg {
				t.Errorf("Fill(%+v, %d) = %+v, %d", b, now, x, e)
			}
		}
	}
	for _, b := range edges() {
		for _, now := range []uint64{0, b.At - 1, b.At, b.At + 1, end - 1, end, end + 1, math.MaxUint64} {
			x, e := Fill(b, now)
			wrong := now < b.At || now > 9223372036854775807
			if wrong && (x != api.Bucket{} || e != api.ErrTime) || !wrong && e != api.OK {
				t.Errorf("Fill(%+v, %d) = %+v, %d", b, now, x, e)
			}
		}
	}
}

// byWords is filling as the document's words tell it, in numbers without bounds.
func byWords(b api.Bucket, now uint64) api.Bucket {
	number := func(n uint64) *big.Int { return new(big.Int).SetUint64(n) }
	g := new(big.Int).Sub(number(now), number(b.At))
	g.Mul(g, number(b.Rate))
	g.Add(g, number(b.Rem))
	gained, rest := new(big.Int).DivMod(g, big.NewInt(1000000000), new(big.Int))
	level := new(big.Int).Add(big.NewInt(b.Level), gained)
	b.Rem = rest.Uint64()
	if b.Rate == 0 || level.Cmp(big.NewInt(b.Burst)) >= 0 {
		b.Rem = 0
		level.SetInt64(b.Burst)
	}
	b.Level = level.Int64()
	b.At = now
	return b
}

// anyBucket is a valid bucket whose fields are at their edges, or anywhere.
func anyBucket(r *rand.Rand) api.Bucket {
	pick := func(n int64, l ...int64) int64 {
		switch r.Intn(3) {
		case 0:
			return l[r.Intn(len(l))]
		case 1:
			return r.Int63n(n)
		}
		return r.Int63n(n) >> r.Intn(bits.Len64(uint64(n)))
	}
	burst := 1 + pick(most, 0, 1, 9, 65534, most-1)
	return api.Bucket{
		Rate:  uint64(pick(fastest+1, 0, 1, 2, 1000, second-1, second, second+1, 1<<32-1, 1<<32, fastest-1, fastest)),
		Burst: burst,
		Level: burst - pick(burst+most+1, 0, 1, burst-1, burst, burst+1, burst+most-1, burst+most),
		Rem:   uint64(pick(second, 0, 1, 500000000, second-2, second-1)),
		At:    uint64(pick(end, 0, 1, 1<<32-1, 1<<32, end-1, end)),
	}
}

// anyTime is a time from another one on, often soon after it.
func anyTime(r *rand.Rand, from uint64) uint64 {
	left := end - from
	switch r.Intn(4) {
	case 0:
		return from + []uint64{0, min(1, left), left / 2, left - min(1, left), left}[r.Intn(5)]
	case 1:
		return from + min(left, uint64(r.Int63()))
	}
	return from + min(left, uint64(r.Int63())>>r.Intn(63))
}

// P5.1 and P5.3: many valid buckets, from a fixed seed: filling is as the words tell it, leaves the bucket valid, and is the same in several steps.
func TestByWords(t *testing.T) {
	r := rand.New(rand.NewSource(1))
	partly, full := 0, 0
	for range 200000 {
		b := anyBucket(r)
		if !Right(b) {
			t.Fatalf("Right(%+v) = false", b)
		}
		now := anyTime(r, b.At)
		want := byWords(b, now)
		x, e := Fill(b, now)
		if x != want || e != api.OK || !Right(x) {
			t.Fatalf("Fill(%+v, %d) = %+v, %d, want %+v", b, now, x, e, want)
		}
		if x.Level == b.Burst {
			full++
		} else if x.Level > b.Level {
			partly++
		}
		steps := b
		for range 1 + r.Intn(4) {
			steps, e = Fill(steps, steps.At+uint64(r.Int63n(int64(now-steps.At)/2+1)))
			if e != api.OK {
				t.Fatal(e)
			}
		}
		if steps, e = Fill(steps, now); steps != want || e != api.OK {
			t.Fatalf("%+v up to %d in steps: %+v, %d, want %+v", b, now, steps, e, want)
		}
	}
	if partly < 10000 || full < 10000 {
		t.Errorf("%d were filled in part, %d to Burst", partly, full)
	}
}

// P5.3: filling at each time of a row is the same as filling at once at the last of them, the time at which it gets full among them.
func TestFillInSteps(t *testing.T) {
	for _, rate := range []uint64{0, 1, 3, 333333333, second - 1, second, second + 1, fastest} {
		for _, level := range []int64{-3, 0, 1, 6, 7} {
			first := api.Bucket{Rate: rate, Burst: 7, Level: level, Rem: 123456789, At: 50}
			if rate == 1 {
				first.Rem = 999999990
			}
			steps := first
			for now := uint64(50); now < 150; now++ {
				var e api.Errno
				steps, e = Fill(steps, now)
				once, f := Fill(first, now)
				if steps != once || e != api.OK || f != api.OK {
					t.Fatalf("%+v up to %d: %+v in steps, %+v at once", first, now, steps, once)
				}
			}
		}
	}
}

// P5.2, Take: only Level changes; a bucket of Rate 0 allows all and keeps its level, one of Level 0 or less allows nothing.
func TestTake(t *testing.T) {
	for _, b := range edges() {
		for _, n := range []int64{1, 2, 30, 65534, 65535} {
			want, allowed := b, false
			switch {
			case b.Rate == 0:
				allowed = true
			case b.Level >= 1:
				want.Level, allowed = b.Level-n, true
			}
			x, ok, e := Take(b, n)
			if x != want || ok != allowed || e != api.OK || !Right(x) {
				t.Errorf("Take(%+v, %d) = %+v, %v, %d, want %+v, %v", b, n, x, ok, e, want, allowed)
			}
		}
	}
}

// P5.2, Take: worked cases at the level's edges.
func TestTakeLevels(t *testing.T) {
	for _, c := range []struct {
		rate        uint64
		level, n    int64
		left        int64
		allowed     bool
		description string
	}{
		{1, 1, 1, 0, true, "the last byte"},
		{1, 1, 2, -1, true, "one more than there is"},
		{1, 1, 65535, -65534, true, "the largest packet from one byte"},
		{1, 0, 1, 0, false, "nothing is left"},
		{1, -1, 1, -1, false, "less than nothing"},
		{1, -most, 65535, -most, false, "the least level"},
		{fastest, 500, 65535, -65035, true, "from a full one"},
		{0, 0, 65535, 0, true, "not shaped, level 0"},
		{0, -most, 65535, -most, true, "not shaped, the least level"},
		{0, 500, 1, 500, true, "not shaped, full"},
	} {
		b := api.Bucket{Rate: c.rate, Burst: 500, Level: c.level, Rem: 999999999, At: 77}
		want := b
		want.Level = c.left
		if x, ok, e := Take(b, c.n); x != want || ok != c.allowed || e != api.OK {
			t.Errorf("%s: Take(%+v, %d) = %+v, %v, %d", c.description, b, c.n, x, ok, e)
		}
	}
}

// P5.2, Take: a bucket that is not valid, and sizes of no packet, whatever the bucket would allow.
func TestTakeWrong(t *testing.T) {
	for _, b := range wrongBuckets() {
		for _, n := range []int64{0, 1, 65535, 65536} {
			if x, ok, e := Take(b, n); x != (api.Bucket{}) || ok || e != api.ErrArg {
				t.Errorf("Take(%+v, %d) = %+v, %v, %d", b, n, x, ok, e)
			}
		}
	}
	for _, b := range []api.Bucket{{Burst: 1, Level: 1}, {Burst: 1, Level: 0}, {Rate: 1, Burst: most, Level: most}, {Rate: 1, Burst: 1, Level: 0}} {
		for _, n := range []int64{math.MinInt64, -65535, -1, 0, 65536, 65537, 1 << 32, 1<<32 + 1, math.MaxInt64} {
			if x, ok, e := Take(b, n); x != (api.Bucket{}) || ok || e != api.ErrArg {
				t.Errorf("Take(%+v, %d) = %+v, %v, %d", b, n, x, ok, e)
			}
		}
	}
}

// P5.2, Next: worked cases.
func TestNext(t *testing.T) {
	for _, c := range []struct {
		name string
		b    api.Bucket
		want uint64
	}{
		{"level 1", api.Bucket{Rate: 1, Burst: 5, Level: 1, At: 9}, 9},
		{"level 1, at the last time", api.Bucket{Rate: 1, Burst: 5, Level: 1, At: end}, end},
		{"full", api.Bucket{Rate: 1, Burst: 5, Level: 5, Rem: 3, At: 9}, 9},
		{"Rate 0, level 0", api.Bucket{Burst: 5, Level: 0, At: 9}, 9},
		{"Rate 0, the least level", api.Bucket{Burst: 5, Level: -most, Rem: 3, At: end - 1}, end - 1},
		{"level 0", api.Bucket{Rate: 1, Burst: 5, Level: 0, At: 9}, second + 9},
		{"level 0, with a remainder", api.Bucket{Rate: 1, Burst: 5, Level: 0, Rem: 1, At: 9}, second + 8},
		{"level 0, all but a little of a byte", api.Bucket{Rate: 1, Burst: 5, Level: 0, Rem: 999999999, At: 9}, 10},
		{"Burst 1", api.Bucket{Rate: 1, Burst: 1, Level: 0, At: 9}, second + 9},
		{"Burst 1, level -1", api.Bucket{Rate: 1, Burst: 1, Level: -1, At: 9}, 2*second + 9},
		{"a time that is rounded up", api.Bucket{Rate: 3, Burst: 5, Level: 0}, 333333334},
		{"a time that needs no rounding", api.Bucket{Rate: 3, Burst: 5, Level: 0, Rem: 1}, 333333333},
		{"the next nanosecond", api.Bucket{Rate: second, Burst: 5, Level: 0, At: 9}, 10},
		{"the next but one", api.Bucket{Rate: second - 1, Burst: 5, Level: 0, At: 9}, 11},
		{"the greatest Rate", api.Bucket{Rate: fastest, Burst: 5, Level: 0, At: 9}, 10},
		{"the greatest Rate, a nanosecond's yield", api.Bucket{Rate: fastest, Burst: 5, Level: -1098, At: 9}, 10},
		{"the greatest Rate, one byte more", api.Bucket{Rate: fastest, Burst: 5, Level: -1099, At: 9}, 11},
		{"the slowest of all", api.Bucket{Rate: 1, Burst: 1, Level: -most}, 1073741825000000000},
		{"just the last time", api.Bucket{Rate: 1, Burst: 1, Level: -most, At: end - 1073741825000000000}, end},
		{"one ahead of the last time", api.Bucket{Rate: 1, Burst: 1, Level: -most, At: end - 1073741825000000001}, end - 1},
		{"later than the last time by one", api.Bucket{Rate: 1, Burst: 1, Level: -most, At: end - 1073741824999999999}, end},
		{"later than the last time by far", api.Bucket{Rate: 1, Burst: 1, Level: -most, At: end - 5}, end},
		{"the last time, nothing allowed", api.Bucket{Rate: fastest, Burst: 1, Level: 0, At: end}, end},
		{"the last time, from the one ahead of it", api.Bucket{Rate: fastest, Burst: 1, Level: 0, At: end - 1}, end},
	} {
		if at, e := Next(c.b); at != c.want || e != api.OK {
			t.Errorf("%s: Next(%+v) = %d, %d, want %d", c.name, c.b, at, e, c.want)
		}
	}
	for _, b := range wrongBuckets() {
		if at, e := Next(b); at != 0 || e != api.ErrArg {
			t.Errorf("Next(%+v) = %d, %d", b, at, e)
		}
	}
}

// first is when a level is greater than 0, worked out by one division.
func first(b api.Bucket) uint64 {
	if b.Rate == 0 || b.Level > 0 {
		return b.At
	}
	missing := uint64(1-b.Level)*second - b.Rem
	return min(end, b.At+(missing+b.Rate-1)/b.Rate)
}

// P5.2, Next: many valid buckets: a packet is allowed at that time, not a nanosecond earlier.
func TestNextIsFirst(t *testing.T) {
	r := rand.New(rand.NewSource(2))
	buckets := edges()
	for range 60000 {
		buckets = append(buckets, anyBucket(r))
	}
	waits, late := 0, 0
	for _, b := range buckets {
		at, e := Next(b)
		if at != first(b) || e != api.OK {
			t.Fatalf("Next(%+v) = %d, %d, want %d", b, at, e, first(b))
		}
		if at == b.At {
			continue
		}
		waits++
		if x := byWords(b, at-1); x.Level > 0 {
			t.Fatalf("Next(%+v) = %d, but there is %+v", b, at, x)
		}
		if x := byWords(b, at); x.Level <= 0 {
			late++
			if at != end {
				t.Fatalf("Next(%+v) = %d, but there is %+v", b, at, x)
			}
		}
	}
	if waits < 10000 || late < 100 {
		t.Errorf("%d waits, %d of them too late", waits, late)
	}
}

// P5.2, SetRate: filled by the old rate and burst, held at the new burst, without the remainder.
func TestSetRate(t *testing.T) {
	for _, c := range []struct {
		name  string
		b     api.Bucket
		rate  uint64
		burst int64
		now   uint64
		level int64
	}{
		{"at its own time", ordinary(), 5, 600, 100, -20},
		{"filled by the old rate", ordinary(), 1, 600, 1000100, -19},
		{"the remainder is lost", ordinary(), 1000, 500, 1000099, -20},
		{"another burst, less than Level", api.Bucket{Rate: 1000, Burst: 10, Level: 8}, 5, 3, 0, 3},
		{"another burst, just Level", api.Bucket{Rate: 1000, Burst: 10, Level: 8}, 5, 8, 0, 8},
		{"another burst, one more than Level", api.Bucket{Rate: 1000, Burst: 10, Level: 8}, 5, 9, 0, 8},
		{"filled to more than another burst", api.Bucket{Rate: 1000, Burst: 10, Level: 8}, 5, 9, 2000000, 9},
		{"filled to the old burst, not to a greater", api.Bucket{Rate: 1000, Burst: 10, Level: 8}, 5, 99, second, 10},
		{"the least of bursts", api.Bucket{Rate: 1000, Burst: 10, Level: 8}, 5, 1, 9, 1},
		{"the greatest of all", api.Bucket{Rate: 1, Burst: 10, Level: -most, Rem: 5, At: end}, fastest, most, end, -most},
		{"from Rate 0", api.Bucket{Rate: 0, Burst: 10, Level: -8, Rem: 5}, 1000, 99, 0, 10},
		{"from Rate 0 to less", api.Bucket{Rate: 0, Burst: 10, Level: -8, Rem: 5}, 1000, 9, 0, 9},
		{"to Rate 0", api.Bucket{Rate: 1000, Burst: 10, Level: -8, Rem: 5}, 0, 99, 1000000, -7},
	} {
		want := api.Bucket{Rate: c.rate, Burst: c.burst, Level: c.level, Rem: 0, At: c.now}
		if x, e := SetRate(c.b, c.rate, c.burst, c.now); x != want || e != api.OK || !Right(x) {
			t.Errorf("%s: SetRate(%+v, %d, %d, %d) = %+v, %d, want %+v", c.name, c.b, c.rate, c.burst, c.now, x, e, want)
		}
	}
}

// P5.2, SetRate: Fill's errors come ahead of those of New.
func TestSetRateWrong(t *testing.T) {
	rates := []uint64{0, 1, fastest, fastest + 1, math.MaxUint64}
	bursts := []int64{math.MinInt64, -1, 0, 1, most, most + 1, math.MaxInt64}
	for _, b := range append(wrongBuckets(), ordinary(), api.Bucket{Burst: 1, At: end}, api.Bucket{Rate: 1, Burst: 1, At: end - 1}) {
		for _, rate := range rates {
			for _, burst := range bursts {
				for _, now := range []uint64{0, b.At - 1, b.At, b.At + 1, end, end + 1, math.MaxUint64} {
					code := api.OK
					switch {
					case !Right(b):
						code = api.ErrArg
					case now < b.At || now > end:
						code = api.ErrTime
					case rate > fastest || burst < 1 || burst > most:
						code = api.ErrArg
					}
					x, e := SetRate(b, rate, burst, now)
					if e != code || e != api.OK && x != (api.Bucket{}) {
						t.Errorf("SetRate(%+v, %d, %d, %d) = %+v, %d, want %d", b, rate, burst, now, x, e, code)
					}
				}
			}
		}
	}
}

// P5.2, SetRate: many valid buckets, held against the words.
func TestSetRateByWords(t *testing.T) {
	r := rand.New(rand.NewSource(3))
	for range 40000 {
		b, other := anyBucket(r), anyBucket(r)
		now := anyTime(r, b.At)
		want := byWords(b, now)
		want.Rate, want.Burst, want.Level, want.Rem = other.Rate, other.Burst, min(want.Level, other.Burst), 0
		if x, e := SetRate(b, other.Rate, other.Burst, now); x != want || e != api.OK || !Right(x) {
			t.Fatalf("SetRate(%+v, %d, %d, %d) = %+v, %d, want %+v", b, other.Rate, other.Burst, now, x, e, want)
		}
	}
}

// take is a packet that was allowed at a time.
type take struct {
	at   uint64
	size int64
}

// greedy takes packets as soon as the bucket allows them, or a little later.
func greedy(t *testing.T, r *rand.Rand, b api.Bucket, largest int64, packets int) []take {
	t.Helper()
	var l []take
	for range packets {
		at, e := Next(b)
		if e != api.OK {
			t.Fatal(e)
		}
		if r.Intn(4) == 0 {
			at += uint64(r.Int63n(3 * second))
		}
		if b, e = Fill(b, at); e != api.OK || !Right(b) {
			t.Fatalf("%+v, %d", b, e)
		}
		size := 1 + r.Int63n(largest)
		if r.Intn(2) == 0 {
			size = largest
		}
		b = taken(t, b, size)
		l = append(l, take{at, size})
	}
	return l
}

// P5.3: in every period, what is taken is at most Burst, plus what Rate yields in it, rounded up, plus the largest packet.
func TestTakenIsBounded(t *testing.T) {
	r := rand.New(rand.NewSource(4))
	near := 0
	for _, rate := range []uint64{1, 2, 7, 1000, 65535, 1000003, second - 1, second, 40000000000} {
		for _, burst := range []int64{1, 2, 10, 1500, 65535, 1000000} {
			for _, largest := range []int64{1, 60, 1500, 65535} {
				l := greedy(t, r, made(t, rate, burst, uint64(r.Intn(1000))), largest, 60)
				for i := range l {
					sum, size := int64(0), int64(0)
					for _, x := range l[i:] {
						sum += x.size
						size = max(size, x.size)
						high, low := bits.Mul64(rate, x.at-l[i].at)
						yields, rest := bits.Div64(high, low, second)
						if rest > 0 {
							yields++
						}
						bound := burst + int64(yields) + size
						if sum > bound {
							t.Fatalf("rate %d, burst %d: %d bytes from %d to %d, at most %d are allowed", rate, burst, sum, l[i].at, x.at, bound)
						}
						if bound-sum <= 1 {
							near++
						}
					}
				}
			}
		}
	}
	if near < 100 {
		t.Errorf("the bound was nearly reached %d times", near)
	}
}

// R2 and R4: what is handed in stays as it was, and the same call answers the same again.
func TestSameAgain(t *testing.T) {
	b := ordinary()
	before := b
	for range 2 {
		if x, e := Fill(b, 99); x != (api.Bucket{}) || e != api.ErrTime {
			t.Errorf("%+v, %d", x, e)
		}
		if x, e := Fill(b, 1000100); x.Level != -19 || e != api.OK {
			t.Errorf("%+v, %d", x, e)
		}
		if x, ok, e := Take(b, 3); x != before || ok || e != api.OK {
			t.Errorf("%+v, %v, %d", x, ok, e)
		}
		if at, e := Next(b); at != 21000100 || e != api.OK {
			t.Errorf("%d, %d", at, e)
		}
		if x, e := SetRate(b, 3, 4, 100); x != (api.Bucket{Rate: 3, Burst: 4, Level: -20, At: 100}) || e != api.OK {
			t.Errorf("%+v, %d", x, e)
		}
		if b != before {
			t.Errorf("%+v", b)
		}
	}
}

// The check of bounds takes any count of numbers, equal ones and negative ones too.
func TestRising(t *testing.T) {
	if !rising[uint64]() || !rising[int64](7) || !rising[int64](math.MinInt64, -1, -1, 0, math.MaxInt64) || !rising[uint64](0, 1<<63, math.MaxUint64) {
		t.Error("what rises is refused")
	}
	if rising[int64](0, -1) || rising[uint64](1, 3, 2) || rising[uint64](1, 0, 5) || rising[uint64](math.MaxUint64, 1) {
		t.Error("what falls is taken")
	}
}

// The product of 128 bits and its division are exact for all numbers, as the library's are.
func TestProduct(t *testing.T) {
	r := rand.New(rand.NewSource(5))
	ns := []uint64{0, 1, 2, 1<<32 - 1, 1 << 32, 1<<32 + 1, 1<<63 - 1, 1 << 63, math.MaxUint64 - 1, math.MaxUint64}
	for range 200 {
		ns = append(ns, r.Uint64(), r.Uint64()>>r.Intn(64))
	}
	for _, a := range ns {
		for _, plus := range []uint64{0, 1, 999999999, 1<<32 - 1} {
			product := multiplying(a, plus)
			for _, n := range ns {
				high, low := bits.Mul64(a, n)
				low, carry := bits.Add64(low, plus, 0)
				high += carry
				if h, l := product(n); h != high || l != low {
					t.Fatalf("%d * %d + %d: %d, %d, want %d, %d", a, n, plus, h, l, high, low)
				}
				q, rest := divided(high, low)
				if rest != bits.Rem64(high, low, second) {
					t.Fatalf("%d, %d: %d remains", high, low, rest)
				}
				if high < second {
					if want, _ := bits.Div64(high, low, second); q != want {
						t.Fatalf("%d, %d: %d, want %d", high, low, q, want)
					}
				}
			}
		}
	}
}

// The visit of middles follows what its visitor makes of the span, and can be left at once and begun again.
func TestMiddles(t *testing.T) {
	s := span{0, end}
	for range 2 {
		for m := range s.middles {
			if m != end/2 {
				t.Fatal(m)
			}
			break
		}
	}
	s = span{10, 20}
	var l []uint64
	for m := range s.middles {
		l = append(l, m)
		if m == s.shut {
			break
		}
		s.shut = m
	}
	want := []uint64{15, 17, 18, 19, 19}
	if len(l) != len(want) {
		t.Fatal(l)
	}
	for i := range l {
		if l[i] != want[i] {
			t.Fatal(l)
		}
	}
}
