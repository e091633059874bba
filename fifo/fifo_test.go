package fifo

import (
	"math"
	"math/rand"
	"slices"
	"testing"

	"waymaster/api"
)

// wrongPackets, wrongBytes and wrongLens are no maxima, and no bytes of a packet; of some the lower bits alone would be.
var (
	wrongPackets = []int{math.MinInt, math.MinInt32, -1 << 32, -1000, -2, -1, 0, 1001, 1002, 65536, 1 << 30, 1 << 32, 1<<32 + 1, math.MaxInt}
	wrongBytes   = []int{math.MinInt, math.MinInt32, -1 << 32, -1073741824, -2, -1, 0, 1073741825, 1 << 31, 1 << 32, 1<<32 + 1, math.MaxInt}
	wrongLens    = []uint32{0, 65536, 65537, 1 << 17, 1 << 31, math.MaxUint32}
)

// someMaxima are right ones, by pairs: the least, the greatest, and some between.
var someMaxima = [][2]int{{1, 1}, {1, 1073741824}, {1000, 1}, {1000, 1073741824}, {2, 10}, {999, 1073741823}, {3, 65535}}

// pack is a packet of a number and bytes, with other fields that differ from one number to another.
func pack(id, length uint32) api.Packet {
	return api.Packet{Id: id, Len: length, Prio: int(id % 16), Cpu: int(id % 64), Flow: api.Flow{From: id, To: ^id, Sport: uint16(id), Dport: 7, Proto: 6}}
}

// packs are packets of the numbers from one on, by their bytes.
func packs(from uint32, lengths ...uint32) []api.Packet {
	var l []api.Packet
	for i, length := range lengths {
		l = append(l, pack(from+uint32(i), length))
	}
	return l
}

// times is a length n times.
func times(n int, length uint32) []uint32 { return slices.Repeat([]uint32{length}, n) }

// sum is the bytes of packets.
func sum(l []api.Packet) int {
	n := 0
	for _, p := range l {
		n += int(p.Len)
	}
	return n
}

// turned is packets in the opposite order, in memory of their own.
func turned(l []api.Packet) []api.Packet {
	l = slices.Clone(l)
	slices.Reverse(l)
	return l
}

// must is a new fifo.
func must(t *testing.T, packets, bytes int) *Fifo {
	t.Helper()
	f, code := New(packets, bytes)
	if f == nil || code != api.OK {
		t.Fatalf("New(%d, %d) = %v, %d", packets, bytes, f, code)
	}
	return f
}

// filled is a new fifo into which packets are put.
func filled(t *testing.T, packets, bytes int, l ...api.Packet) *Fifo {
	t.Helper()
	f := must(t, packets, bytes)
	put(t, f, l...)
	return f
}

// put puts packets, none of which may be refused.
func put(t *testing.T, f *Fifo, l ...api.Packet) {
	t.Helper()
	for _, p := range l {
		if code := f.Put(p); code != api.OK {
			t.Fatalf("Put(%v) = %d", p, code)
		}
	}
}

// back puts packets back, none of which may be refused.
func back(t *testing.T, f *Fifo, l ...api.Packet) {
	t.Helper()
	for _, p := range l {
		if code := f.Back(p); code != api.OK {
			t.Fatalf("Back(%v) = %d", p, code)
		}
	}
}

// holds checks what a fifo holds, by all that can be asked.
func holds(t *testing.T, f *Fifo, want ...api.Packet) {
	t.Helper()
	if got := f.All(); !slices.Equal(got, want) {
		t.Fatalf("All() = %v, want %v", got, want)
	}
	if got := f.Bytes(); got != sum(want) {
		t.Fatalf("Bytes() = %d, want %d", got, sum(want))
	}
	p, code := f.First()
	if len(want) == 0 {
		if p != (api.Packet{}) || code != api.ErrEmpty {
			t.Fatalf("First() = %v, %d of an empty fifo", p, code)
		}
	} else if p != want[0] || code != api.OK {
		t.Fatalf("First() = %v, %d, want %v", p, code, want[0])
	}
}

// takes takes packets, which are to be these.
func takes(t *testing.T, f *Fifo, want ...api.Packet) {
	t.Helper()
	for _, w := range want {
		if p, code := f.Take(); p != w || code != api.OK {
			t.Fatalf("Take() = %v, %d, want %v", p, code, w)
		}
	}
}

// sets changes the maxima and checks what is removed.
func sets(t *testing.T, f *Fifo, packets, bytes int, want ...api.Packet) {
	t.Helper()
	if l, code := f.Limits(packets, bytes); !slices.Equal(l, want) || code != api.OK {
		t.Fatalf("Limits(%d, %d) = %v, %d, want %v", packets, bytes, l, code, want)
	}
}

// P10.1: New makes an empty fifo if both maxima are in their ranges, and none otherwise.
func TestNew(t *testing.T) {
	for _, m := range someMaxima {
		holds(t, must(t, m[0], m[1]))
	}
	refused := func(packets, bytes int) {
		t.Helper()
		if f, code := New(packets, bytes); f != nil || code != api.ErrArg {
			t.Errorf("New(%d, %d) = %v, %d", packets, bytes, f, code)
		}
	}
	for _, packets := range wrongPackets {
		for _, m := range someMaxima {
			refused(packets, m[1])
		}
		for _, bytes := range wrongBytes {
			refused(packets, bytes)
		}
	}
	for _, bytes := range wrongBytes {
		for _, m := range someMaxima {
			refused(m[0], bytes)
		}
	}
}

// P10.1: two fifos have nothing in common.
func TestNewApart(t *testing.T) {
	f, g := must(t, 2, 10), must(t, 2, 10)
	put(t, f, pack(1, 10))
	holds(t, g)
	put(t, g, pack(2, 1), pack(3, 1))
	holds(t, f, pack(1, 10))
	takes(t, f, pack(1, 10))
	holds(t, g, pack(2, 1), pack(3, 1))
}

// P10.1: the document's example.
func TestPutExample(t *testing.T) {
	f := must(t, 2, 10)
	want := []api.Errno{api.OK, api.ErrBytes, api.OK, api.ErrMany}
	for i, p := range packs(1, 6, 5, 4, 1) {
		if code := f.Put(p); code != want[i] {
			t.Errorf("Put %d = %d, want %d", i, code, want[i])
		}
	}
	holds(t, f, pack(1, 6), pack(3, 4))
}

// P10.1: the least and the greatest Len are taken by Put and by Back, and none beyond; a wrong Len comes ahead of what is full.
func TestLens(t *testing.T) {
	f := must(t, 5, 200000)
	put(t, f, pack(1, 1), pack(2, 65535))
	back(t, f, pack(3, 65535), pack(4, 1))
	l := []api.Packet{pack(4, 1), pack(3, 65535), pack(1, 1), pack(2, 65535)}
	holds(t, f, l...)
	full := filled(t, 1, 1, pack(9, 1))
	for _, n := range wrongLens {
		for _, code := range []api.Errno{f.Put(pack(5, n)), f.Back(pack(5, n)), full.Put(pack(5, n)), full.Back(pack(5, n))} {
			if code != api.ErrArg {
				t.Errorf("a Len of %d is answered with %d", n, code)
			}
		}
		holds(t, f, l...)
		holds(t, full, pack(9, 1))
	}
	put(t, f, pack(6, 1))
	holds(t, f, append(l, pack(6, 1))...)
}

// P10.1: a packet of nothing but zeros and a Len is one like others; nothing is asked of the other fields.
func TestOtherFields(t *testing.T) {
	odd := []api.Packet{
		{Len: 1},
		{Id: math.MaxUint32, Len: 2, Prio: -1, Cpu: math.MinInt},
		{Len: 3, Prio: math.MaxInt, Cpu: 64, Flow: api.Flow{From: math.MaxUint32, To: math.MaxUint32, Sport: 65535, Dport: 65535, Proto: 255}},
		{Len: 1},
	}
	f := filled(t, 10, 100, odd...)
	holds(t, f, odd...)
	back(t, f, odd...)
	holds(t, f, append(turned(odd), odd...)...)
	takes(t, f, append(turned(odd), odd...)...)
	holds(t, f)
}

// P10.1: the packet that just fits is put, by its number and by its bytes, and no further one.
func TestPutFits(t *testing.T) {
	f := filled(t, 3, 100, pack(1, 50))
	if code := f.Put(pack(2, 51)); code != api.ErrBytes {
		t.Errorf("one byte too many: %d", code)
	}
	holds(t, f, pack(1, 50))
	put(t, f, pack(3, 50))
	if code := f.Put(pack(4, 1)); code != api.ErrBytes {
		t.Errorf("beyond the bytes: %d", code)
	}
	holds(t, f, pack(1, 50), pack(3, 50))
	f = filled(t, 2, 100, pack(1, 1), pack(2, 1))
	for _, n := range []uint32{1, 98, 99, 65535} { // the last two are too many bytes as well
		if code := f.Put(pack(3, n)); code != api.ErrMany {
			t.Errorf("beyond the packets, with %d bytes: %d", n, code)
		}
	}
	holds(t, f, pack(1, 1), pack(2, 1))
	f = must(t, 1, 65534)
	if code := f.Put(pack(1, 65535)); code != api.ErrBytes {
		t.Errorf("one byte too many for an empty fifo: %d", code)
	}
	holds(t, f)
	put(t, f, pack(2, 65534))
	holds(t, f, pack(2, 65534))
}

// P10.1: the least maxima hold one packet of one byte.
func TestLeastMaxima(t *testing.T) {
	f := must(t, 1, 1)
	if code := f.Put(pack(1, 2)); code != api.ErrBytes {
		t.Errorf("Put of 2 bytes: %d", code)
	}
	for id := range uint32(5) {
		put(t, f, pack(id, 1))
		if code := f.Put(pack(9, 1)); code != api.ErrMany {
			t.Errorf("a second packet: %d", code)
		}
		takes(t, f, pack(id, 1))
		holds(t, f)
	}
}

// P10.1: the greatest maximum of packets is reached and not exceeded. As many packets never have the greatest maximum of bytes.
func TestGreatestMaxima(t *testing.T) {
	f := must(t, 1000, 1073741824)
	all := packs(0, times(1000, 65535)...)
	put(t, f, all...)
	if code := f.Put(pack(5000, 1)); code != api.ErrMany {
		t.Errorf("one packet too many: %d", code)
	}
	holds(t, f, all...)
	f = must(t, 1000, 1073741824)
	extra := packs(0, times(16384, 65535)...) // 16384 less than the maximum in all
	back(t, f, extra...)
	sets(t, f, 1000, 1073741824, turned(turned(extra)[1000:])...)
	holds(t, f, turned(extra)[:1000]...)
}

// P10.1: with more bytes than the greatest maximum, by Back, there are more packets than theirs: that is told first.
func TestGreatestBytes(t *testing.T) {
	f := must(t, 1000, 1073741824)
	extra := packs(0, times(16385, 65535)...)
	back(t, f, extra...)
	if f.Bytes() != 1073790975 {
		t.Errorf("Bytes() = %d", f.Bytes())
	}
	if code := f.Put(pack(1, 1)); code != api.ErrMany {
		t.Errorf("Put = %d", code)
	}
	takes(t, f, turned(extra)[:15386]...)
	if code := f.Put(pack(77777, 1)); code != api.OK {
		t.Errorf("Put as the thousandth = %d", code)
	}
	holds(t, f, append(turned(extra)[15386:], pack(77777, 1))...)
}

// P10.1: Put is refused where more than the maximum is held because of Back: ErrMany ahead of ErrBytes, and each for itself.
func TestPutBeyond(t *testing.T) {
	many := filled(t, 2, 100, pack(1, 1), pack(2, 1))
	back(t, many, pack(3, 1))
	if code := many.Put(pack(4, 1)); code != api.ErrMany {
		t.Errorf("more packets than the maximum: %d", code)
	}
	holds(t, many, pack(3, 1), pack(1, 1), pack(2, 1))
	heavy := filled(t, 5, 10, pack(1, 10))
	back(t, heavy, pack(3, 1))
	if code := heavy.Put(pack(4, 1)); code != api.ErrBytes {
		t.Errorf("more bytes than the maximum: %d", code)
	}
	holds(t, heavy, pack(3, 1), pack(1, 10))
	both := filled(t, 1, 10, pack(1, 10))
	back(t, both, pack(3, 1))
	if code := both.Put(pack(4, 1)); code != api.ErrMany {
		t.Errorf("more of both: %d", code)
	}
	takes(t, both, pack(3, 1))
	if code := both.Put(pack(4, 1)); code != api.ErrMany {
		t.Errorf("as many as the maximum: %d", code)
	}
	takes(t, both, pack(1, 10))
	put(t, both, pack(4, 10))
	holds(t, both, pack(4, 10))
	takes(t, heavy, pack(3, 1), pack(1, 10))
	put(t, heavy, pack(5, 9), pack(6, 1))
	holds(t, heavy, pack(5, 9), pack(6, 1))
}

// P10.1: Back makes a packet the first one, in an empty fifo, in one with packets, and in a full one, and again and again.
func TestBack(t *testing.T) {
	f := must(t, 2, 10)
	back(t, f, pack(1, 65535))
	holds(t, f, pack(1, 65535))
	takes(t, f, pack(1, 65535))
	holds(t, f)
	put(t, f, pack(2, 4))
	back(t, f, pack(3, 3))
	holds(t, f, pack(3, 3), pack(2, 4))
	back(t, f, pack(4, 65535))
	back(t, f, pack(5, 1))
	holds(t, f, pack(5, 1), pack(4, 65535), pack(3, 3), pack(2, 4))
	takes(t, f, pack(5, 1), pack(4, 65535))
	back(t, f, pack(4, 65535))
	holds(t, f, pack(4, 65535), pack(3, 3), pack(2, 4))
	takes(t, f, pack(4, 65535), pack(3, 3))
	put(t, f, pack(6, 6))
	holds(t, f, pack(2, 4), pack(6, 6))
	takes(t, f, pack(2, 4), pack(6, 6))
	holds(t, f)
}

// P10.1: a great many packets may be put back, and come in the opposite order.
func TestBackMany(t *testing.T) {
	f := filled(t, 1, 1, pack(7, 1))
	l := packs(100, times(200000, 9)...)
	back(t, f, l...)
	want := append(turned(l), pack(7, 1))
	holds(t, f, want...)
	for range 1000 {
		takes(t, f, want[0])
		back(t, f, want[0])
	}
	takes(t, f, want...)
	holds(t, f)
}

// P10.2: First and Take of an empty fifo, of one packet, of many, till none is left, and again behind that.
func TestFirstTake(t *testing.T) {
	f := must(t, 100, 10000)
	empty := func() {
		t.Helper()
		for range 2 {
			holds(t, f)
			if p, code := f.Take(); p != (api.Packet{}) || code != api.ErrEmpty {
				t.Fatalf("Take() = %v, %d of an empty fifo", p, code)
			}
		}
	}
	empty()
	for round := range uint32(10) {
		l := packs(round*100, 1, 2, 3, 4, 5, 6)[:1+round%6]
		put(t, f, l...)
		for len(l) > 0 {
			holds(t, f, l...)
			holds(t, f, l...) // First has removed nothing
			takes(t, f, l[0])
			l = l[1:]
		}
		empty()
	}
	put(t, f, pack(1, 1), pack(2, 2))
	takes(t, f, pack(1, 1))
	put(t, f, pack(3, 3))
	takes(t, f, pack(2, 2))
	put(t, f, pack(4, 4))
	holds(t, f, pack(3, 3), pack(4, 4))
}

// P10.2: the document's example of Limits.
func TestLimitsExample(t *testing.T) {
	f := filled(t, 2, 10, pack(3, 4))
	back(t, f, pack(7, 9), pack(8, 9))
	sets(t, f, 2, 20, pack(3, 4))
	holds(t, f, pack(8, 9), pack(7, 9))
}

// P10.2: Limits that are the same, greater, or smaller, but not below what is held, remove nothing, and are the maxima from then on.
func TestLimitsNone(t *testing.T) {
	l := packs(1, 10, 20, 30)
	for _, m := range [][2]int{{5, 100}, {6, 100}, {5, 101}, {1000, 1073741824}, {3, 100}, {5, 60}, {3, 60}, {4, 61}} {
		f := filled(t, 5, 100, l...)
		sets(t, f, m[0], m[1])
		holds(t, f, l...)
		sets(t, f, m[0], m[1])
		holds(t, f, l...)
		follows(t, f, m[0], m[1])
	}
}

// follows checks by Put that a fifo has these maxima.
func follows(t *testing.T, f *Fifo, packets, bytes int) {
	t.Helper()
	l := f.All()
	if len(l) < packets && bytes-sum(l) < api.MaxLen {
		if code := f.Put(pack(9000, uint32(bytes-sum(l)+1))); code != api.ErrBytes {
			t.Fatalf("maxima %d, %d: Put of a byte too much = %d", packets, bytes, code)
		}
	}
	for len(l) < packets && sum(l) < bytes {
		p := pack(9001, 1)
		if len(l) == packets-1 {
			p.Len = uint32(min(api.MaxLen, bytes-sum(l)))
		}
		put(t, f, p)
		l = append(l, p)
	}
	want := api.ErrBytes
	if len(l) >= packets {
		want = api.ErrMany
	}
	if code := f.Put(pack(9002, 1)); code != want {
		t.Fatalf("maxima %d, %d: Put into a full fifo = %d, want %d", packets, bytes, code, want)
	}
	holds(t, f, l...)
}

// P10.2: Limits that are smaller by packets, by bytes and by both remove as many from the end as exceed them, the last one first, and are the maxima from then on.
func TestLimitsSmaller(t *testing.T) {
	l := packs(1, 10, 20, 30, 40)
	for _, c := range []struct{ packets, bytes, left int }{
		{3, 100, 3}, {2, 100, 2}, {1, 100, 1}, // by packets
		{5, 99, 3}, {5, 60, 3}, {5, 59, 2}, {5, 30, 2}, {5, 29, 1}, {5, 10, 1}, {5, 9, 0}, {5, 1, 0}, // by bytes
		{3, 59, 2}, {2, 60, 2}, {2, 30, 2}, {2, 29, 1}, {1, 10, 1}, {1, 9, 0}, {1, 1, 0}, // by both
		{1000, 9, 0}, {3, 1073741824, 3}, {4, 100, 4}, // by one of them, while the other one is greater
	} {
		f := filled(t, 4, 100, l...)
		sets(t, f, c.packets, c.bytes, turned(l[c.left:])...)
		holds(t, f, l[:c.left]...)
		follows(t, f, c.packets, c.bytes)
	}
}

// P10.2: what was put back is removed like others, behind all that was put; the last one that was put back is the last one removed.
func TestLimitsBack(t *testing.T) {
	all := []api.Packet{pack(5, 50), pack(4, 40), pack(3, 30), pack(1, 10), pack(2, 20)}
	for left := range 6 {
		for _, byBytes := range []bool{false, true} {
			f := filled(t, 2, 30, pack(1, 10), pack(2, 20))
			back(t, f, pack(3, 30), pack(4, 40), pack(5, 50))
			packets, bytes := max(1, left), 1000
			if byBytes || left == 0 {
				packets, bytes = 1000, max(1, sum(all[:left]))
			}
			sets(t, f, packets, bytes, turned(all[left:])...)
			holds(t, f, all[:left]...)
			back(t, f, pack(6, 60))
			holds(t, f, append([]api.Packet{pack(6, 60)}, all[:left]...)...)
			sets(t, f, 1000, 10000)
			put(t, f, pack(7, 70))
			rest := append([]api.Packet{pack(6, 60)}, all[:left]...)
			holds(t, f, append(rest, pack(7, 70))...)
			takes(t, f, append(rest, pack(7, 70))...)
			holds(t, f)
		}
	}
}

// P10.2: a fifo with more than its maxima because of Back loses what is too much at Limits with the same maxima.
func TestLimitsSameBeyond(t *testing.T) {
	f := filled(t, 2, 10, pack(1, 5), pack(2, 5))
	back(t, f, pack(3, 5))
	sets(t, f, 2, 10, pack(2, 5))
	holds(t, f, pack(3, 5), pack(1, 5))
	back(t, f, pack(4, 65535))
	sets(t, f, 2, 10, pack(1, 5), pack(3, 5), pack(4, 65535)) // the first one alone is too much
	holds(t, f)
	put(t, f, pack(5, 10))
	holds(t, f, pack(5, 10))
}

// P10.2: Limits of an empty fifo are its maxima from then on.
func TestLimitsEmpty(t *testing.T) {
	f := must(t, 2, 10)
	for _, m := range someMaxima {
		sets(t, f, m[0], m[1])
		holds(t, f)
	}
	sets(t, f, 3, 7)
	follows(t, f, 3, 7)
}

// P10.2: wrong maxima are refused, and the fifo and its maxima are as they were.
func TestLimitsWrong(t *testing.T) {
	f := filled(t, 3, 10, pack(1, 4), pack(2, 5))
	refused := func(packets, bytes int) {
		t.Helper()
		if l, code := f.Limits(packets, bytes); len(l) != 0 || code != api.ErrArg {
			t.Fatalf("Limits(%d, %d) = %v, %d", packets, bytes, l, code)
		}
		holds(t, f, pack(1, 4), pack(2, 5))
	}
	for _, packets := range wrongPackets {
		refused(packets, 1)
		refused(packets, 10)
		refused(packets, 1073741824)
		for _, bytes := range wrongBytes {
			refused(packets, bytes)
		}
	}
	for _, bytes := range wrongBytes {
		refused(1, bytes)
		refused(3, bytes)
		refused(1000, bytes)
	}
	follows(t, f, 3, 10)
}

// P10.2: Drain and All of no packet, of one and of many, put and put back; the fifo is as a new one behind Drain, with its maxima.
func TestDrainAll(t *testing.T) {
	for _, n := range []int{0, 1, 2, 1000} {
		for _, m := range []int{0, 1, 2, 50} {
			f := must(t, 1000, n+1)
			l, b := packs(1, times(n, 1)...), packs(5000, times(m, 8)...)
			put(t, f, l...)
			back(t, f, b...)
			want := append(turned(b), l...)
			holds(t, f, want...)
			if got := f.Drain(); !slices.Equal(got, want) {
				t.Errorf("Drain() = %v, want %v", got, want)
			}
			holds(t, f)
			if got := f.Drain(); len(got) != 0 {
				t.Errorf("a second Drain() = %v", got)
			}
			if p, code := f.Take(); p != (api.Packet{}) || code != api.ErrEmpty {
				t.Errorf("Take() = %v, %d behind Drain", p, code)
			}
			follows(t, f, 1000, n+1)
			back(t, f, pack(6000, 3))
			if p, code := f.Take(); p != pack(6000, 3) || code != api.OK {
				t.Errorf("Take() = %v, %d behind Drain and Back", p, code)
			}
		}
	}
}

// P10.2: Bytes behind each call that changes them.
func TestBytes(t *testing.T) {
	f := must(t, 4, 100)
	has := func(want int) {
		t.Helper()
		if got := f.Bytes(); got != want {
			t.Fatalf("Bytes() = %d, want %d", got, want)
		}
	}
	has(0)
	put(t, f, pack(1, 60))
	has(60)
	f.Put(pack(2, 41))
	has(60)
	put(t, f, pack(2, 40))
	has(100)
	back(t, f, pack(3, 65535))
	has(65635)
	takes(t, f, pack(3, 65535))
	has(100)
	sets(t, f, 4, 99, pack(2, 40))
	has(60)
	f.All()
	f.First()
	has(60)
	f.Drain()
	has(0)
	f.Take()
	has(0)
}

// P10.1 and P10.2: on a nil fifo, and on one that New has not made, errors are ErrNil ahead of others, and the rest is empty or 0.
func TestNil(t *testing.T) {
	for _, f := range []*Fifo{nil, {}} {
		for _, n := range []uint32{0, 1, 65535, 65536} {
			if f.Put(pack(1, n)) != api.ErrNil || f.Back(pack(1, n)) != api.ErrNil {
				t.Error("Put or Back of a nil fifo")
			}
		}
		if p, code := f.First(); p != (api.Packet{}) || code != api.ErrNil {
			t.Errorf("First() = %v, %d", p, code)
		}
		if p, code := f.Take(); p != (api.Packet{}) || code != api.ErrNil {
			t.Errorf("Take() = %v, %d", p, code)
		}
		for _, m := range append([][2]int{{0, 0}, {0, 1}, {1, 0}, {1001, 5}, {-1, -1}}, someMaxima...) {
			if l, code := f.Limits(m[0], m[1]); len(l) != 0 || code != api.ErrNil {
				t.Errorf("Limits(%v) = %v, %d", m, l, code)
			}
		}
		if len(f.Drain()) != 0 || len(f.All()) != 0 || f.Bytes() != 0 {
			t.Error("Drain, All or Bytes of a nil fifo")
		}
	}
}

// R2: an error leaves the fifo as it was.
func TestErrorsChangeNothing(t *testing.T) {
	f := filled(t, 2, 10, pack(1, 5), pack(2, 5))
	back(t, f, pack(3, 5))
	l := []api.Packet{pack(3, 5), pack(1, 5), pack(2, 5)}
	for _, c := range []struct {
		call func() api.Errno
		want api.Errno
	}{
		{func() api.Errno { return f.Put(pack(4, 0)) }, api.ErrArg},
		{func() api.Errno { return f.Put(pack(4, 65536)) }, api.ErrArg},
		{func() api.Errno { return f.Put(pack(4, 1)) }, api.ErrMany},
		{func() api.Errno { return f.Back(pack(4, 0)) }, api.ErrArg},
		{func() api.Errno { return f.Back(pack(4, 65536)) }, api.ErrArg},
		{func() api.Errno { _, code := f.Limits(0, 1); return code }, api.ErrArg},
		{func() api.Errno { _, code := f.Limits(1, 0); return code }, api.ErrArg},
	} {
		if code := c.call(); code != c.want {
			t.Errorf("%d, want %d", code, c.want)
		}
		holds(t, f, l...)
	}
	takes(t, f, l...)
	follows(t, f, 2, 10)
}

// spoil writes over a slice and over its spare capacity.
func spoil(l []api.Packet) {
	l = l[:cap(l)]
	for i := range l {
		l[i] = pack(66666, 3)
	}
}

// R3: what All, Drain and Limits tell is memory of its own: a caller that writes over it, or appends to it, changes neither the fifo nor what was told before, and the fifo never writes to it.
func TestOwnMemory(t *testing.T) {
	f := filled(t, 6, 100, packs(1, 10, 11, 12)...)
	back(t, f, packs(4, 13, 14, 15)...)
	l := []api.Packet{pack(6, 15), pack(5, 14), pack(4, 13), pack(1, 10), pack(2, 11), pack(3, 12)}
	first, second := f.All(), f.All()
	spoil(first)
	holds(t, f, l...)
	if !slices.Equal(second, l) {
		t.Errorf("All() changed to %v", second)
	}
	removed, code := f.Limits(2, 100)
	if code != api.OK {
		t.Fatal(code)
	}
	kept := slices.Clone(removed)
	sets(t, f, 4, 100)
	put(t, f, pack(7, 1), pack(8, 2))
	back(t, f, pack(9, 3))
	if !slices.Equal(removed, kept) {
		t.Errorf("what Limits told changed to %v", removed)
	}
	want := f.All()
	spoil(removed)
	holds(t, f, want...)
	drained := f.Drain()
	put(t, f, packs(20, 1, 2, 3)...)
	back(t, f, packs(30, 1, 2, 3)...)
	if !slices.Equal(drained, want) {
		t.Errorf("what Drain told changed to %v", drained)
	}
	want = f.All()
	spoil(drained)
	holds(t, f, want...)
	if !slices.Equal(second, l) {
		t.Errorf("All() changed to %v", second)
	}
}

// R3: what All tells stays as it is while the fifo goes on.
func TestAllStays(t *testing.T) {
	f := filled(t, 10, 100, packs(1, 1, 2, 3, 4)...)
	all := f.All()
	takes(t, f, packs(1, 1, 2)...)
	put(t, f, pack(5, 5))
	back(t, f, pack(6, 6))
	f.Limits(2, 100)
	f.Limits(10, 100)
	f.Drain()
	put(t, f, packs(10, 9, 9, 9, 9, 9)...)
	if !slices.Equal(all, packs(1, 1, 2, 3, 4)) {
		t.Errorf("All() changed to %v", all)
	}
}

// P10.3: packets leave in the order in which they were put, each once, over many rounds.
func TestOrder(t *testing.T) {
	f := must(t, 1000, 1073741824)
	next, first := uint32(0), uint32(0)
	for round := range 2000 {
		for range round % 7 {
			if f.Put(pack(next, 1+next%65535)) == api.OK {
				next++
			}
		}
		for range round % 6 {
			if p, code := f.Take(); code == api.OK {
				if p != pack(first, 1+first%65535) {
					t.Fatalf("Take() = %v, want the number %d", p, first)
				}
				first++
			}
		}
	}
	for _, p := range f.Drain() {
		if p != pack(first, 1+first%65535) {
			t.Fatalf("Drain tells %v, want the number %d", p, first)
		}
		first++
	}
	if first != next || next < 1000 {
		t.Errorf("%d put, %d left", next, first)
	}
}

// model is a fifo by the document's words alone: all its packets in one slice.
type model struct {
	packets, bytes int
	l              []api.Packet
}

func (m *model) put(p api.Packet) api.Errno {
	switch {
	case p.Len < 1 || p.Len > 65535:
		return api.ErrArg
	case len(m.l) >= m.packets:
		return api.ErrMany
	case sum(m.l)+int(p.Len) > m.bytes:
		return api.ErrBytes
	}
	m.l = append(slices.Clone(m.l), p)
	return api.OK
}

func (m *model) back(p api.Packet) api.Errno {
	if p.Len < 1 || p.Len > 65535 {
		return api.ErrArg
	}
	m.l = append([]api.Packet{p}, m.l...)
	return api.OK
}

func (m *model) take() (api.Packet, api.Errno) {
	if len(m.l) == 0 {
		return api.Packet{}, api.ErrEmpty
	}
	p := m.l[0]
	m.l = slices.Clone(m.l[1:])
	return p, api.OK
}

func (m *model) limits(packets, bytes int) ([]api.Packet, api.Errno) {
	if packets < 1 || packets > 1000 || bytes < 1 || bytes > 1073741824 {
		return nil, api.ErrArg
	}
	m.packets, m.bytes = packets, bytes
	var removed []api.Packet
	for len(m.l) > packets || sum(m.l) > bytes {
		removed = append(removed, m.l[len(m.l)-1])
		m.l = slices.Clone(m.l[:len(m.l)-1])
	}
	return removed, api.OK
}

// step does one thing, picked at random, to a fifo and to its model, and compares what is answered.
func step(t *testing.T, r *rand.Rand, f *Fifo, m *model, id uint32) {
	t.Helper()
	p := pack(id, uint32(r.Intn(12)))
	if r.Intn(40) == 0 {
		p.Len = uint32(65530 + r.Intn(10))
	}
	switch r.Intn(12) {
	case 0, 1, 2, 3, 4:
		if got, want := f.Put(p), m.put(p); got != want {
			t.Fatalf("Put(%v) = %d, want %d", p, got, want)
		}
	case 5, 6:
		if got, want := f.Back(p), m.back(p); got != want {
			t.Fatalf("Back(%v) = %d, want %d", p, got, want)
		}
	case 7, 8, 9:
		got, code := f.Take()
		if want, wantCode := m.take(); got != want || code != wantCode {
			t.Fatalf("Take() = %v, %d, want %v, %d", got, code, want, wantCode)
		}
	case 10:
		packets, bytes := r.Intn(12), r.Intn(90)
		if r.Intn(8) == 0 {
			bytes *= 2000
		}
		got, code := f.Limits(packets, bytes)
		if want, wantCode := m.limits(packets, bytes); !slices.Equal(got, want) || code != wantCode {
			t.Fatalf("Limits(%d, %d) = %v, %d, want %v, %d", packets, bytes, got, code, want, wantCode)
		}
		spoil(got)
	case 11:
		if r.Intn(6) > 0 {
			return
		}
		got := f.Drain()
		if !slices.Equal(got, m.l) {
			t.Fatalf("Drain() = %v, want %v", got, m.l)
		}
		spoil(got)
		m.l = nil
	}
}

// P10.1, P10.2 and P10.3: whatever is done, in whatever order, the fifo answers as the model does.
func TestModel(t *testing.T) {
	for seed := range int64(60) {
		r := rand.New(rand.NewSource(seed))
		m := &model{packets: 1 + r.Intn(10), bytes: 1 + r.Intn(80)}
		f := must(t, m.packets, m.bytes)
		for id := range uint32(600) {
			step(t, r, f, m, id)
			holds(t, f, m.l...)
		}
	}
}

// P10.3: a fifo into which nothing was put back never exceeds its maxima, and each packet leaves once: taken, removed by Limits, or drained.
func TestNeverExceeds(t *testing.T) {
	for seed := range int64(30) {
		r := rand.New(rand.NewSource(seed))
		packets, bytes := 1+r.Intn(20), 1+r.Intn(300)
		f := must(t, packets, bytes)
		put, left := map[uint32]bool{}, map[uint32]int{}
		for id := range uint32(500) {
			switch r.Intn(8) {
			case 0, 1:
				if p, code := f.Take(); code == api.OK {
					left[p.Id]++
				}
			case 2:
				packets, bytes = 1+r.Intn(20), 1+r.Intn(300)
				l, _ := f.Limits(packets, bytes)
				for _, p := range l {
					left[p.Id]++
				}
			default:
				put[id] = f.Put(pack(id, uint32(1+r.Intn(60)))) == api.OK
			}
			if len(f.All()) > packets || f.Bytes() > bytes {
				t.Fatalf("seed %d: %d packets of %d bytes, with the maxima %d and %d", seed, len(f.All()), f.Bytes(), packets, bytes)
			}
		}
		for _, p := range f.Drain() {
			left[p.Id]++
		}
		for id := range uint32(500) {
			if put[id] != (left[id] == 1) || left[id] > 1 {
				t.Fatalf("seed %d: the packet %d, put %v, left %d times", seed, id, put[id], left[id])
			}
		}
	}
}

// What is put in, taken and put back again takes time in proportion to the packets, not to their square.
func TestLong(t *testing.T) {
	f := must(t, 1000, 1073741824)
	put(t, f, packs(0, times(1000, 1)...)...)
	for id := range uint32(300000) {
		p, code := f.Take()
		if code != api.OK || p != pack(id, 1) || f.Back(p) != api.OK {
			t.Fatal(id, p, code)
		}
		takes(t, f, p)
		put(t, f, pack(id+1000, 1))
	}
	holds(t, f, packs(300000, times(1000, 1)...)...)
}
