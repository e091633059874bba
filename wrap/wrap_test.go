package wrap

import (
	"math"
	"slices"
	"strconv"
	"testing"

	"waymaster/api"
)

const (
	last = math.MaxUint32 // the index that 0 follows
	half = 1 << 31        // the least distance at which nothing is ahead
)

// sizes are all of them, written out so that no rule of the package is used to find them.
var sizes = []int{1, 2, 4, 8, 16, 32, 64, 128, 256, 512, 1024, 2048, 4096}

// noSizes are numbers that are none: neighbours of sizes, greater powers of two, and those whose lower bits alone would be a size.
func noSizes() []int {
	l := []int{0, -1, -2, -4, -4096, math.MinInt, math.MinInt32, 3, 5, 6, 7, 9, 12, 100, 1000, 4095, 4097, 6144, math.MaxInt32, math.MaxInt}
	for e := 13; e < strconv.IntSize; e++ {
		l = append(l, 1<<e, 1<<e+4)
	}
	return l
}

// starts are indexes to begin at, most of them near where indexes wrap round or change their upper bit.
var starts = []uint32{0, 1, 2, 5, 4095, 4096, 4097, 1000003, half - 4097, half - 1, half, half + 1, last - 4096, last - 4095, last - 2, last - 1, last}

// The ordinary inputs of P1.1, and its edges: across 4294967295, and distances of 2147483647 and 2147483648.
func TestFarAheadOver(t *testing.T) {
	for _, c := range []struct {
		a, b  uint32
		far   uint32
		ahead bool
		over  uint32
	}{
		{0, 0, 0, false, 0},
		{last, last, 0, false, 0},
		{half, half, 0, false, 0},
		{3, 10, 7, true, 0},
		{10, 3, last - 6, false, 7},
		{1, 2, 1, true, 0},
		{2, 1, last, false, 1},
		{last, 0, 1, true, 0},
		{0, last, last, false, 1},
		{last, 2, 3, true, 0},
		{2, last, last - 2, false, 3},
		{0, half - 1, half - 1, true, 0},
		{half - 1, 0, half + 1, false, half - 1},
		{0, half, half, false, 0},
		{half, 0, half, false, 0},
		{0, half + 1, half + 1, false, half - 1},
		{half + 1, 0, half - 1, true, 0},
		{last, half - 2, half - 1, true, 0},
		{half - 2, last, half + 1, false, half - 1},
		{last, half - 1, half, false, 0},
		{half - 1, last, half, false, 0},
		{last, half, half + 1, false, half - 1},
	} {
		if got := Far(c.a, c.b); got != c.far {
			t.Errorf("Far(%d, %d) = %d, want %d", c.a, c.b, got, c.far)
		}
		if got := Ahead(c.a, c.b); got != c.ahead {
			t.Errorf("Ahead(%d, %d) = %v, want %v", c.a, c.b, got, c.ahead)
		}
		if got := Over(c.a, c.b); got != c.over {
			t.Errorf("Over(%d, %d) = %d, want %d", c.a, c.b, got, c.over)
		}
	}
}

// P1.1 at every start: what is far, ahead and over hangs on the distance alone.
func TestFarAheadOverFromAnyStart(t *testing.T) {
	for _, a := range starts {
		for _, d := range []uint32{0, 1, 2, 4096, half - 2, half - 1, half, half + 1, last - 1, last} {
			b := a + d
			ahead := d != 0 && d < half
			if Far(a, b) != d || Ahead(a, b) != ahead {
				t.Errorf("from %d by %d: Far %d, Ahead %v", a, d, Far(a, b), Ahead(a, b))
			}
			over := uint32(0)
			if ahead {
				over = d
			}
			if got := Over(b, a); got != over {
				t.Errorf("Over(%d, %d) = %d, want %d", b, a, got, over)
			}
		}
	}
}

// P1.2, IsSize: every number near the sizes, and wrong ones.
func TestIsSize(t *testing.T) {
	for n := -5000; n <= 20000; n++ {
		if got, want := IsSize(n), slices.Contains(sizes, n); got != want {
			t.Errorf("IsSize(%d) = %v, want %v", n, got, want)
		}
	}
	for _, n := range noSizes() {
		if IsSize(n) {
			t.Errorf("IsSize(%d) = true", n)
		}
	}
	if !IsSize(api.MaxRing) || IsSize(2*api.MaxRing) {
		t.Error("the greatest size is not MaxRing")
	}
}

// P1.2: the variadic check needs every number to be a size, wherever the wrong one stands.
func TestAreSizes(t *testing.T) {
	if !areSizes() || !areSizes(sizes...) {
		t.Error("sizes are refused")
	}
	if areSizes(3, 4) || areSizes(4, 3) || areSizes(1, 0, 4096) {
		t.Error("what is no size is taken")
	}
}

// P1.2: ErrArg for what is no size comes ahead of ErrWrap, with zero values beside it.
func TestNoSize(t *testing.T) {
	for _, n := range noSizes() {
		for _, i := range starts {
			if k, e := Slot(i, n); k != 0 || e != api.ErrArg {
				t.Errorf("Slot(%d, %d) = %d, %d", i, n, k, e)
			}
			for _, d := range []uint32{0, 1, 4096, 4097, half, last} {
				if k, e := Room(i+d, i, n); k != 0 || e != api.ErrArg {
					t.Errorf("Room(%d, %d, %d) = %d, %d", i+d, i, n, k, e)
				}
				if l, e := Range(i, i+d, n); len(l) != 0 || e != api.ErrArg {
					t.Errorf("Range(%d, %d, %d) = %v, %d", i, i+d, n, l, e)
				}
			}
		}
	}
}

// P1.2, Slot: ordinary inputs, and the sizes 1 and 4096 across the wrap.
func TestSlot(t *testing.T) {
	for _, c := range []struct {
		i    uint32
		size int
		want int
	}{
		{0, 1, 0}, {last, 1, 0}, {13, 8, 5}, {8, 8, 0}, {7, 8, 7},
		{4095, 4096, 4095}, {4096, 4096, 0}, {last, 4096, 4095}, {last - 4095, 4096, 0}, {half, 4096, 0}, {half - 1, 4096, 4095}, {last, 2, 1},
	} {
		if got, e := Slot(c.i, c.size); got != c.want || e != api.OK {
			t.Errorf("Slot(%d, %d) = %d, %d, want %d", c.i, c.size, got, e, c.want)
		}
	}
	for _, size := range sizes {
		for _, i := range starts {
			want := int(int64(i) % int64(size))
			if got, e := Slot(i, size); got != want || e != api.OK {
				t.Errorf("Slot(%d, %d) = %d, %d, want %d", i, size, got, e, want)
			}
		}
	}
}

// distances are those around which Room and Range of a size change what they answer.
func distances(size int) []uint32 {
	n := uint32(size)
	return []uint32{0, 1, n / 2, n - 1, n, n + 1, 2 * n, 2*n + 1, half - 1, half, half + 1, last - n, last}
}

// P1.2, Room: size minus the distance, up to a distance that is the size; one more is ErrWrap.
func TestRoom(t *testing.T) {
	if n, e := Room(2, last, 4); n != 1 || e != api.OK {
		t.Errorf("Room(2, %d, 4) = %d, %d", uint32(last), n, e)
	}
	if n, e := Room(last, 2, 4); n != 0 || e != api.ErrWrap {
		t.Errorf("Room(%d, 2, 4) = %d, %d", uint32(last), n, e)
	}
	for _, size := range sizes {
		for _, cons := range starts {
			for _, d := range distances(size) {
				want, code := 0, api.ErrWrap
				if int64(d) <= int64(size) {
					want, code = size-int(d), api.OK
				}
				if got, e := Room(cons+d, cons, size); got != want || e != code {
					t.Errorf("Room(%d, %d, %d) = %d, %d, want %d, %d", cons+d, cons, size, got, e, want, code)
				}
			}
		}
	}
}

// slotsByHand are the slots of so many indexes, counted on in 64 bits.
func slotsByHand(from uint32, count uint32, size int) []int {
	var l []int
	for k := int64(0); k < int64(count); k++ {
		i := (int64(from) + k) % (1 << 32)
		l = append(l, int(i%int64(size)))
	}
	return l
}

// P1.2, Range: the slots in order and without the last index's, up to a distance that is the size; one more is ErrWrap.
func TestRange(t *testing.T) {
	if l, e := Range(last-1, 1, 4); !slices.Equal(l, []int{2, 3, 0}) || e != api.OK {
		t.Errorf("Range(%d, 1, 4) = %v, %d", uint32(last-1), l, e)
	}
	if l, e := Range(1, last-1, 4); len(l) != 0 || e != api.ErrWrap {
		t.Errorf("Range(1, %d, 4) = %v, %d", uint32(last-1), l, e)
	}
	for _, size := range sizes {
		for _, from := range starts {
			for _, d := range distances(size) {
				var want []int
				code := api.ErrWrap
				if int64(d) <= int64(size) {
					want, code = slotsByHand(from, d, size), api.OK
				}
				if got, e := Range(from, from+d, size); !slices.Equal(got, want) || e != code {
					t.Errorf("Range(%d, %d, %d) = %v, %d, want %v, %d", from, from+d, size, got, e, want, code)
				}
			}
		}
	}
}

// R3: two answers of Range share no memory, their spare capacity included.
func TestRangeIsNewMemory(t *testing.T) {
	a, _ := Range(0, 3, 4)
	b, _ := Range(0, 3, 4)
	for i := range a[:cap(a)] {
		a[:cap(a)][i] = -1
	}
	if !slices.Equal(b, []int{0, 1, 2}) {
		t.Errorf("the second answer became %v", b)
	}
	if c, _ := Range(0, 3, 4); !slices.Equal(c, []int{0, 1, 2}) {
		t.Errorf("a later answer is %v", c)
	}
}

// The visit of slots can be left early and gone through again.
func TestAroundLeftEarly(t *testing.T) {
	visit := around(last, 4)
	for range 2 {
		var got []uint32
		for i := range visit {
			got = append(got, i)
			if i == 1 {
				break
			}
		}
		if !slices.Equal(got, []uint32{last, 0, 1}) {
			t.Errorf("visited %v", got)
		}
	}
}

// P1.3: adding the same number to both indexes changes neither their distance nor what follows from it.
func TestShiftKeepsDistance(t *testing.T) {
	for _, a := range starts {
		for _, b := range starts {
			for _, n := range starts {
				if Far(a+n, b+n) != Far(a, b) {
					t.Errorf("Far(%d, %d) changes when %d is added", a, b, n)
				}
				if Ahead(a+n, b+n) != Ahead(a, b) || Over(a+n, b+n) != Over(a, b) {
					t.Errorf("Ahead or Over of %d, %d changes when %d is added", a, b, n)
				}
				r1, e1 := Room(a, b, 4096)
				r2, e2 := Room(a+n, b+n, 4096)
				if r1 != r2 || e1 != e2 {
					t.Errorf("Room(%d, %d) changes when %d is added", a, b, n)
				}
			}
		}
	}
}

// P1.3: the slots of a range that is not longer than the size are different, and are slots.
func TestSlotsOfRangeDiffer(t *testing.T) {
	for _, size := range sizes {
		for _, from := range starts {
			for _, d := range []int{0, 1, size / 2, size - 1, size} {
				l, e := Range(from, from+uint32(d), size)
				if e != api.OK || len(l) != d {
					t.Fatalf("Range of %d from %d, size %d: %d slots, %d", d, from, size, len(l), e)
				}
				seen := make([]bool, size)
				for _, slot := range l {
					if slot < 0 || slot >= size {
						t.Fatalf("Range of %d from %d, size %d: slot %d", d, from, size, slot)
					}
					if seen[slot] {
						t.Fatalf("Range of %d from %d, size %d: slot %d twice", d, from, size, slot)
					}
					seen[slot] = true
				}
			}
		}
	}
}
