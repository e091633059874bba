package hash

import (
	"math"
	"math/rand"
	"slices"
	"testing"

	"waymaster/api"
)

// edges are numbers at the ends and around the middle of all of them.
var edges = []uint32{0, 1, 2, 3, 0xffff, 0x10000, 0x7fffffff, 0x80000000, 0x80000001, 0xfffffffe, 0xffffffff}

// wrongRanges are none to which a number is scaled: neighbours of those that are, and those whose lower bits alone would be one.
var wrongRanges = []int{0, -1, -2, -65536, math.MinInt32, math.MinInt, math.MinInt + 1, 65537, 65538, 1 << 17, 1 << 32, 1<<32 + 1, math.MaxInt32, math.MaxInt - 1, math.MaxInt}

// numbers are the edges, every single bit and what is below it, and many others, the same ones each time.
func numbers() []uint32 {
	l := slices.Clone(edges)
	for i := range 32 {
		l = append(l, 1<<i, 1<<i-1, ^uint32(1<<i))
	}
	r := rand.New(rand.NewSource(7))
	for range 300 {
		l = append(l, r.Uint32())
	}
	return l
}

// modulo keeps of a number that was reckoned with in 64 bits what 32 bits hold.
func modulo(x uint64) uint64 { return x % 4294967296 }

// turnedByHand moves the bits one by one; n must be in 0..31.
func turnedByHand(h uint64, n int) uint64 {
	out := uint64(0)
	for i := range 32 {
		if h>>i%2 == 1 {
			out += 1 << ((i + n) % 32)
		}
	}
	return out
}

// mixedByHand is the document's mixing, in 64 bits and without the package's functions.
func mixedByHand(h, k uint64) uint64 {
	k = modulo(k * 0xcc9e2d51)
	k = turnedByHand(k, 15)
	k = modulo(k * 0x1b873593)
	h = turnedByHand(h^k, 13)
	return modulo(modulo(h*5) + 0xe6546b64)
}

// endedByHand is the document's ending, in 64 bits and without the package's functions.
func endedByHand(h, n uint64) uint64 {
	h ^= n
	h ^= h / 65536
	h = modulo(h * 0x85ebca6b)
	h ^= h / 8192
	h = modulo(h * 0xc2b2ae35)
	return h ^ h/65536
}

// hashedByHand is the hash of words, in 64 bits and without the package's functions.
func hashedByHand(salt uint32, l []uint32) uint32 {
	h := uint64(salt)
	for _, k := range l {
		h = mixedByHand(h, uint64(k))
	}
	return uint32(endedByHand(h, modulo(uint64(len(l))*4)))
}

// The document's examples.
func TestExamples(t *testing.T) {
	if got := Words(0); got != 0 {
		t.Errorf("Words(0) = %x", got)
	}
	if got := Turn(3, -1); got != 0x80000001 {
		t.Errorf("Turn(3, -1) = %x", got)
	}
	if k, e := Scale(0x80000000, 3); k != 1 || e != api.OK {
		t.Errorf("Scale(80000000, 3) = %d, %d", k, e)
	}
}

// P7.1, Mix: worked values at 0, 1, 80000000 and ffffffff; nearly all of their products and many of their sums wrap around.
func TestMix(t *testing.T) {
	for _, c := range [][3]uint32{
		{0x0, 0x0, 0xe6546b64}, {0x0, 0x1, 0x26cf0576}, {0x0, 0x80000000, 0xde54ebc0}, {0x0, 0xffffffff, 0x145ee0d5}, {0x0, 0x9abcdef0, 0x319f94fc},
		{0x1, 0x0, 0xe6550b64}, {0x1, 0x1, 0x26ce6576}, {0x1, 0x80000000, 0xde558bc0}, {0x1, 0xffffffff, 0x145f80d5}, {0x1, 0x9abcdef0, 0x319ef4fc},
		{0x80000000, 0x0, 0xe654bb64}, {0x80000000, 0x1, 0x26ceb576}, {0x80000000, 0x80000000, 0xde549bc0}, {0x80000000, 0xffffffff, 0x145e90d5}, {0x80000000, 0x9abcdef0, 0x319fe4fc},
		{0xffffffff, 0x0, 0xe6546b5f}, {0xffffffff, 0x1, 0xa5d9d14d}, {0xffffffff, 0x80000000, 0xee53eb03}, {0xffffffff, 0xffffffff, 0xb849f5ee}, {0xffffffff, 0x9abcdef0, 0x9b0941c7},
		{0x12345678, 0x0, 0x9c5f76c2}, {0x12345678, 0x1, 0xc5ec0e40}, {0x12345678, 0x80000000, 0x445ff6f6}, {0x12345678, 0xffffffff, 0xb655d58b}, {0x12345678, 0x9abcdef0, 0xe4f88c5a},
	} {
		if got := Mix(c[0], c[1]); got != c[2] {
			t.Errorf("Mix(%x, %x) = %x, want %x", c[0], c[1], got, c[2])
		}
	}
}

// P7.1, End: worked values at 0, 1, 80000000 and ffffffff; h that is n ends as 0.
func TestEnd(t *testing.T) {
	for _, c := range [][3]uint32{
		{0x0, 0x0, 0x00000000}, {0x0, 0x1, 0x514e28b7}, {0x0, 0x4, 0x249cb285}, {0x0, 0x10, 0x552553bc}, {0x0, 0x80000000, 0x6d3c65a0}, {0x0, 0xffffffff, 0x81f16f39},
		{0x1, 0x0, 0x514e28b7}, {0x1, 0x1, 0x00000000}, {0x1, 0x4, 0xcc0d53cd}, {0x1, 0x10, 0xd8d09ee8}, {0x1, 0x80000000, 0x8b7f7a6a}, {0x1, 0xffffffff, 0x7995c304},
		{0x80000000, 0x0, 0x6d3c65a0}, {0x80000000, 0x1, 0x8b7f7a6a}, {0x80000000, 0x4, 0x8086e0db}, {0x80000000, 0x10, 0x4b560a83}, {0x80000000, 0x80000000, 0x00000000}, {0x80000000, 0xffffffff, 0xf9cc0ea8},
		{0xffffffff, 0x0, 0x81f16f39}, {0xffffffff, 0x1, 0x7995c304}, {0xffffffff, 0x4, 0x937f414e}, {0xffffffff, 0x10, 0xaae5fc44}, {0xffffffff, 0x80000000, 0xf9cc0ea8}, {0xffffffff, 0xffffffff, 0x00000000},
		{0x12345678, 0x0, 0xe37cd1bc}, {0x12345678, 0x1, 0x59745785}, {0x12345678, 0x4, 0x45b48b8e}, {0x12345678, 0x10, 0x8ecae34b}, {0x12345678, 0x80000000, 0xf1d9ffdd}, {0x12345678, 0xffffffff, 0xbec84d80},
	} {
		if got := End(c[0], c[1]); got != c[2] {
			t.Errorf("End(%x, %x) = %x, want %x", c[0], c[1], got, c[2])
		}
	}
}

// P7.1, Mix and End against what is reckoned by hand, every number with every one.
func TestMixAndEndByHand(t *testing.T) {
	l := numbers()
	for _, h := range l {
		for _, k := range l {
			if got, want := Mix(h, k), uint32(mixedByHand(uint64(h), uint64(k))); got != want {
				t.Fatalf("Mix(%x, %x) = %x, want %x", h, k, got, want)
			}
			if got, want := End(h, k), uint32(endedByHand(uint64(h), uint64(k))); got != want {
				t.Fatalf("End(%x, %x) = %x, want %x", h, k, got, want)
			}
		}
	}
}

// P7.1, Turn: worked values, at the edges of what is turned by.
func TestTurn(t *testing.T) {
	for _, c := range []struct {
		h    uint32
		n    int
		want uint32
	}{
		{0x80000001, 0, 0x80000001}, {0x80000001, 1, 3}, {0x80000001, 31, 0xc0000000}, {0x80000001, 32, 0x80000001}, {0x80000001, 33, 3},
		{0x80000001, -1, 0xc0000000}, {0x80000001, -31, 3}, {0x80000001, -32, 0x80000001}, {0x80000001, -33, 0xc0000000},
		{1, 31, 0x80000000}, {1, -1, 0x80000000}, {1, -31, 2}, {2, -1, 1}, {5, 64, 5}, {5, -64, 5},
		{0x12345678, 4, 0x23456781}, {0x12345678, -4, 0x81234567}, {0x12345678, 16, 0x56781234}, {0x12345678, -16, 0x56781234},
		{0x12345678, math.MaxInt, 0x091a2b3c}, {0x12345678, math.MinInt, 0x12345678}, {0x12345678, math.MinInt + 1, 0x2468acf0}, {0x12345678, math.MaxInt - 1, 0x048d159e},
		{0x12345678, math.MinInt32, 0x12345678}, {0x12345678, math.MaxInt32, 0x091a2b3c},
		{0, 0, 0}, {0, 13, 0}, {0, math.MinInt, 0}, {0xffffffff, 13, 0xffffffff}, {0xffffffff, -13, 0xffffffff}, {0xffffffff, math.MinInt, 0xffffffff},
	} {
		if got := Turn(c.h, c.n); got != c.want {
			t.Errorf("Turn(%x, %d) = %x, want %x", c.h, c.n, got, c.want)
		}
	}
}

// P7.1, Turn: by every n of some rounds and at the ends of all ints, n modulo 32 being in 0..31 also if n is negative.
func TestTurnByHand(t *testing.T) {
	var turns []int
	for i := range 200 {
		turns = append(turns, i-100, math.MinInt+i, math.MaxInt-i, math.MinInt32-100+i, math.MaxInt32-100+i)
	}
	for _, h := range numbers() {
		for _, n := range turns {
			if got, want := Turn(h, n), uint32(turnedByHand(uint64(h), (n%32+32)%32)); got != want {
				t.Fatalf("Turn(%x, %d) = %x, want %x", h, n, got, want)
			}
		}
	}
}

// P7.1, Turn: to and fro, and in two turns as in one.
func TestTurnToAndFro(t *testing.T) {
	for _, h := range numbers() {
		for n := -70; n <= 70; n++ {
			if got := Turn(Turn(h, n), -n); got != h {
				t.Fatalf("%x turned by %d and back is %x", h, n, got)
			}
			if Turn(Turn(h, n), 13) != Turn(h, n+13) || Turn(Turn(h, n), -15) != Turn(h, n-15) {
				t.Fatalf("%x turned by %d and on is not what it is turned at once", h, n)
			}
		}
		if Turn(Turn(h, math.MaxInt), -math.MaxInt) != h || Turn(Turn(h, math.MinInt), math.MinInt) != h {
			t.Fatalf("%x turned by the most and back is another one", h)
		}
	}
}

// P7.1, Words: none, one and some, each with the salts 0, 1, 80000000 and ffffffff.
func TestWords(t *testing.T) {
	for _, c := range []struct {
		salt uint32
		l    []uint32
		want uint32
	}{
		{0x0, []uint32{}, 0x00000000},
		{0x0, []uint32{0x0}, 0x2362f9de},
		{0x0, []uint32{0x1}, 0xfbf1402a},
		{0x0, []uint32{0x80000000}, 0x9994d794},
		{0x0, []uint32{0xffffffff}, 0x76293b50},
		{0x0, []uint32{0x0, 0x0}, 0x63852afc},
		{0x0, []uint32{0x1, 0x2}, 0xc3642e86},
		{0x0, []uint32{0x2, 0x1}, 0x583150c3},
		{0x0, []uint32{0xffffffff, 0x80000000, 0x1, 0x0}, 0x0f55ab05},
		{0x1, []uint32{}, 0x514e28b7},
		{0x1, []uint32{0x0}, 0x78ed212d},
		{0x1, []uint32{0x1}, 0x5e11e574},
		{0x1, []uint32{0x80000000}, 0x96b9066b},
		{0x1, []uint32{0xffffffff}, 0x36c6fa09},
		{0x1, []uint32{0x0, 0x0}, 0xea95647d},
		{0x1, []uint32{0x1, 0x2}, 0xd96d786f},
		{0x1, []uint32{0x2, 0x1}, 0x24115c24},
		{0x1, []uint32{0xffffffff, 0x80000000, 0x1, 0x0}, 0x5abc23dc},
		{0x80000000, []uint32{}, 0x6d3c65a0},
		{0x80000000, []uint32{0x0}, 0x4cf180be},
		{0x80000000, []uint32{0x1}, 0xc7c62772},
		{0x80000000, []uint32{0x80000000}, 0x682fdcb6},
		{0x80000000, []uint32{0xffffffff}, 0x26a229ce},
		{0x80000000, []uint32{0x0, 0x0}, 0xe5dc65f0},
		{0x80000000, []uint32{0x1, 0x2}, 0x60c6a17d},
		{0x80000000, []uint32{0x2, 0x1}, 0x21f9d768},
		{0x80000000, []uint32{0xffffffff, 0x80000000, 0x1, 0x0}, 0x81c4d7ef},
		{0xffffffff, []uint32{}, 0x81f16f39},
		{0xffffffff, []uint32{0x0}, 0x2fb4abf3},
		{0xffffffff, []uint32{0x1}, 0x13e8a54a},
		{0xffffffff, []uint32{0x80000000}, 0x7ad0f8d0},
		{0xffffffff, []uint32{0xffffffff}, 0xa5fe21d3},
		{0xffffffff, []uint32{0x0, 0x0}, 0xf2d290ec},
		{0xffffffff, []uint32{0x1, 0x2}, 0xd2da46e0},
		{0xffffffff, []uint32{0x2, 0x1}, 0x7d499997},
		{0xffffffff, []uint32{0xffffffff, 0x80000000, 0x1, 0x0}, 0x07f9291f},
		{0x9747b28c, []uint32{0x61616161}, 0x5a97808a}, // four letters each
		{0x9747b28c, []uint32{0x64636261}, 0xf0478627},
		{0, []uint32{0x87654321}, 0xf55b516b},
		{0x5082edee, []uint32{0x87654321}, 0x2362f9de},
	} {
		if got := Words(c.salt, c.l...); got != c.want {
			t.Errorf("Words(%x, %x) = %x, want %x", c.salt, c.l, got, c.want)
		}
	}
}

// P7.1, Words: of many, the words 0, 1, 2 and so on with the salt 9.
func TestManyWords(t *testing.T) {
	for _, c := range []struct {
		count int
		want  uint32
	}{
		{5, 0x49cece60},
		{100, 0x7fbaa193},
		{1000, 0x11e23669},
		{65537, 0x0ba58299},
	} {
		var l []uint32
		for i := range c.count {
			l = append(l, uint32(i))
		}
		if got := Words(9, l...); got != c.want {
			t.Errorf("Words of %d = %x, want %x", c.count, got, c.want)
		}
	}
}

// P7.1, Words against what is reckoned by hand, of every length up to some; and each word, each place and the length tell.
func TestWordsByHand(t *testing.T) {
	l := numbers()
	for _, salt := range edges {
		for n := range l {
			if got, want := Words(salt, l[:n]...), hashedByHand(salt, l[:n]); got != want {
				t.Fatalf("Words(%x, %x) = %x, want %x", salt, l[:n], got, want)
			}
		}
	}
	for i := range 10 {
		changed := slices.Clone(l[:10])
		changed[i]++
		if Words(0, changed...) == Words(0, l[:10]...) {
			t.Errorf("the word at %d does not tell", i)
		}
	}
	if Words(5, 0) == Words(5) || Words(5, 0, 0) == Words(5, 0) {
		t.Error("a word that is 0 does not tell")
	}
}

// P7.1, Words is put together of Mix and End: four times the number of words ends it, not the number.
func TestWordsOfMixAndEnd(t *testing.T) {
	for _, a := range edges {
		if Words(a) != End(a, 0) {
			t.Errorf("Words(%x) is not ended with 0", a)
		}
		for _, b := range edges {
			if Words(a, b) != End(Mix(a, b), 4) || Words(a, b, 3) != End(Mix(Mix(a, b), 3), 8) {
				t.Errorf("Words(%x, %x) is not mixed and ended in order", a, b)
			}
		}
	}
}

// R3: nil and no words are the same; the words and what is behind them in their memory stay as they are.
func TestWordsAreNotChanged(t *testing.T) {
	for _, salt := range edges {
		if Words(salt, nil...) != Words(salt) || Words(salt, []uint32{}...) != Words(salt) {
			t.Errorf("nil and empty words of the salt %x differ", salt)
		}
	}
	all := slices.Clone(numbers())
	before := slices.Clone(all)
	first := Words(1, all[:5]...)
	if !slices.Equal(all, before) {
		t.Error("the words were changed")
	}
	all[0]++
	Words(1, all[:5]...)
	all[0]--
	if Words(1, all[:5]...) != first {
		t.Error("an earlier call tells")
	}
}

// The visit of words ends by itself, can be left early and gone through again.
func TestEach(t *testing.T) {
	visit := each([]uint32{7, 0, 9})
	for range 2 {
		var got []uint32
		ends := 0
		for k, some := range visit {
			if some {
				got = append(got, k)
			} else {
				ends++
			}
		}
		if !slices.Equal(got, []uint32{7, 0, 9}) || ends != 1 {
			t.Errorf("visited %v with %d ends", got, ends)
		}
		for k := range visit {
			if k != 7 {
				t.Errorf("the first word is %d", k)
			}
			break
		}
	}
}

// flowSalts are the salts of the worked values of flows.
var flowSalts = [3]uint32{0, 9, 0xffffffff}

// P7.2, Of: worked values, with ports and protocols that are 0 and the greatest ones, From and To, and the ports, changed about.
func TestOf(t *testing.T) {
	for _, c := range []struct {
		f    api.Flow
		want [3]uint32
	}{
		{api.Flow{From: 0x0, To: 0x0, Sport: 0, Dport: 0, Proto: 0}, [3]uint32{0x8134cdf8, 0xc80516c6, 0x0c68723f}},
		{api.Flow{From: 0xffffffff, To: 0xffffffff, Sport: 65535, Dport: 65535, Proto: 255}, [3]uint32{0xa1a78076, 0x6f6424c2, 0xbb00fd69}},
		{api.Flow{From: 0x1, To: 0x2, Sport: 3, Dport: 4, Proto: 6}, [3]uint32{0x84ba25b2, 0xda4da15b, 0x3b4029c9}},
		{api.Flow{From: 0x2, To: 0x1, Sport: 3, Dport: 4, Proto: 6}, [3]uint32{0x78b470c7, 0x721b04b8, 0xdac69853}},
		{api.Flow{From: 0x1, To: 0x2, Sport: 4, Dport: 3, Proto: 6}, [3]uint32{0xb3ec4411, 0x09040fce, 0x56571ca1}},
		{api.Flow{From: 0x1, To: 0x2, Sport: 0, Dport: 65535, Proto: 0}, [3]uint32{0x81776d38, 0xffb19546, 0xbe790266}},
		{api.Flow{From: 0x1, To: 0x2, Sport: 65535, Dport: 0, Proto: 255}, [3]uint32{0xca19a23f, 0xabeb284f, 0x73db3537}},
		{api.Flow{From: 0x1, To: 0x2, Sport: 1, Dport: 0, Proto: 17}, [3]uint32{0x14cb7e9d, 0x9c8c0f83, 0x4276c286}},
		{api.Flow{From: 0x1, To: 0x2, Sport: 0, Dport: 1, Proto: 17}, [3]uint32{0x000e79a0, 0xce3d3721, 0xcf19a4a0}},
		{api.Flow{From: 0xa000001, To: 0xc0a80101, Sport: 443, Dport: 51234, Proto: 6}, [3]uint32{0xba5de8ac, 0x12ce509d, 0x53c7f9cc}},
		{api.Flow{From: 0x80000000, To: 0x1, Sport: 32768, Dport: 32767, Proto: 128}, [3]uint32{0xc44d8ec4, 0x4b0615f3, 0x8a226a4b}},
	} {
		for i, salt := range flowSalts {
			if got := Of(c.f, salt); got != c.want[i] {
				t.Errorf("Of(%+v, %x) = %x, want %x", c.f, salt, got, c.want[i])
			}
		}
	}
}

// P7.2, Of against what is reckoned by hand, and against Mix and End: every flow of edges, with every salt of them.
func TestOfByHand(t *testing.T) {
	ends := []uint32{0, 1, 0x80000000, 0xffffffff}
	ports := []uint16{0, 1, 255, 256, 32767, 32768, 65535}
	for _, from := range ends {
		for _, to := range ends {
			for _, sport := range ports {
				for _, dport := range ports {
					for _, proto := range []uint8{0, 1, 6, 17, 127, 128, 255} {
						f := api.Flow{From: from, To: to, Sport: sport, Dport: dport, Proto: proto}
						both := uint32(uint64(sport)*65536 + uint64(dport))
						for _, salt := range ends {
							want := hashedByHand(salt, []uint32{from, to, both, uint32(proto)})
							mixed := Mix(Mix(Mix(Mix(salt, from), to), both), uint32(proto))
							if got := Of(f, salt); got != want || got != End(mixed, 16) {
								t.Fatalf("Of(%+v, %x) = %x, want %x", f, salt, got, want)
							}
						}
					}
				}
			}
		}
	}
}

// P7.2, Of: every field of a flow tells, and the salt.
func TestOfEveryField(t *testing.T) {
	f := api.Flow{From: 1, To: 2, Sport: 3, Dport: 4, Proto: 6}
	seen := map[uint32]bool{}
	for _, g := range []api.Flow{
		f,
		{From: 9, To: 2, Sport: 3, Dport: 4, Proto: 6},
		{From: 1, To: 9, Sport: 3, Dport: 4, Proto: 6},
		{From: 1, To: 2, Sport: 9, Dport: 4, Proto: 6},
		{From: 1, To: 2, Sport: 3, Dport: 9, Proto: 6},
		{From: 1, To: 2, Sport: 3, Dport: 4, Proto: 9},
	} {
		seen[Of(g, 0)] = true
	}
	seen[Of(f, 1)] = true
	if len(seen) != 7 {
		t.Errorf("%d hashes of 7 flows and salts", len(seen))
	}
}

// P7.2, Scale: worked values at the ranges 1, 2, 3, 65535 and 65536, with the least and the greatest number of all and of a part.
func TestScale(t *testing.T) {
	for _, c := range []struct {
		h    uint32
		n    int
		want int
	}{
		{0, 1, 0}, {1, 1, 0}, {0x80000000, 1, 0}, {0xffffffff, 1, 0},
		{0, 2, 0}, {0x7fffffff, 2, 0}, {0x80000000, 2, 1}, {0xffffffff, 2, 1},
		{0, 3, 0}, {0x55555555, 3, 0}, {0x55555556, 3, 1}, {0x80000000, 3, 1}, {0xaaaaaaaa, 3, 1}, {0xaaaaaaab, 3, 2}, {0xffffffff, 3, 2},
		{0x80000000, 4, 2}, {0xffffffff, 64, 63}, {0x03ffffff, 64, 0}, {0x04000000, 64, 1},
		{0, 65535, 0}, {0x10001, 65535, 0}, {0x10002, 65535, 1}, {0x80000000, 65535, 32767}, {0xffffffff, 65535, 65534},
		{0, 65536, 0}, {0xffff, 65536, 0}, {0x10000, 65536, 1}, {0x80000000, 65536, 32768}, {0xfffeffff, 65536, 65534}, {0xffff0000, 65536, 65535}, {0xffffffff, 65536, 65535},
	} {
		if got, e := Scale(c.h, c.n); got != c.want || e != api.OK {
			t.Errorf("Scale(%x, %d) = %d, %d, want %d", c.h, c.n, got, e, c.want)
		}
	}
}

// P7.2, Scale: n out of 1..65536 is ErrArg, with 0 beside it, whatever h is.
func TestScaleToNoRange(t *testing.T) {
	for _, h := range numbers() {
		for _, n := range wrongRanges {
			if k, e := Scale(h, n); k != 0 || e != api.ErrArg {
				t.Errorf("Scale(%x, %d) = %d, %d", h, n, k, e)
			}
		}
	}
}

// P7.2 and P7.3, Scale: where each part of a range begins and ends, from 0 up to n-1; together with what does not decrease, that is every number.
func TestScaleParts(t *testing.T) {
	for _, n := range []int{1, 2, 3, 4, 5, 7, 10, 63, 64, 100, 1000, 32767, 32768, 32769, 65534, 65535, 65536} {
		for part := range n {
			least := (uint64(part)<<32 + uint64(n) - 1) / uint64(n)
			greatest := (uint64(part+1)<<32+uint64(n)-1)/uint64(n) - 1
			for _, h := range []uint64{least, (least + greatest) / 2, greatest} {
				if got, e := Scale(uint32(h), n); got != part || e != api.OK {
					t.Fatalf("Scale(%x, %d) = %d, %d, want %d", h, n, got, e, part)
				}
			}
		}
	}
}

// P7.3: for every range, a scaled number is in 0..n-1 and does not decrease when h increases, and 0 and the greatest h reach both ends.
func TestScaleDoesNotDecrease(t *testing.T) {
	l := numbers()
	slices.Sort(l)
	for n := 1; n <= 65536; n++ {
		before := 0
		for _, h := range l {
			k, e := Scale(h, n)
			if e != api.OK || k < before || k > n-1 {
				t.Fatalf("Scale(%x, %d) = %d, %d, after %d", h, n, k, e, before)
			}
			before = k
		}
		if first, _ := Scale(0, n); first != 0 || before != n-1 {
			t.Fatalf("a range of %d is scaled to from %d up to %d", n, first, before)
		}
	}
}

// inverse is the number by which a multiplication by an odd one is undone; each round doubles the bits that are right.
func inverse(odd uint32) uint32 {
	x := odd
	for range 5 {
		x *= 2 - odd*x
	}
	return x
}

// unfolded undoes the combining of a number with itself shifted right.
func unfolded(h uint32, by int) uint32 {
	out := h
	for range 32 {
		out = h ^ out>>by
	}
	return out
}

// turnedIn is what a word is made into ahead of its combining with h.
func turnedIn(k uint32) uint32 {
	return uint32(modulo(turnedByHand(modulo(uint64(k)*0xcc9e2d51), 15) * 0x1b873593))
}

// P7.3: mixing and ending are one to one: of what results and of the fixed number, the other one is found again.
func TestOneToOne(t *testing.T) {
	l := numbers()
	for _, h := range l {
		for _, k := range l {
			combined := Turn((Mix(h, k)-0xe6546b64)*inverse(5), -13)
			if got := combined ^ turnedIn(k); got != h {
				t.Fatalf("Mix(%x, %x) is undone to %x", h, k, got)
			}
			if got := Turn((combined^h)*inverse(0x1b873593), -15) * inverse(0xcc9e2d51); got != k {
				t.Fatalf("Mix(%x, %x) is undone to the word %x", h, k, got)
			}
			middle := unfolded(unfolded(End(h, k), 16)*inverse(0xc2b2ae35), 13)
			if got := unfolded(middle*inverse(0x85ebca6b), 16) ^ k; got != h {
				t.Fatalf("End(%x, %x) is undone to %x", h, k, got)
			}
		}
	}
}

// P7.3: different numbers stay different when they are mixed with a fixed one, mixed into a fixed one, and ended: neighbours, and those that differ in their upper bits alone.
func TestDifferentStayDifferent(t *testing.T) {
	const many = 1 << 16
	for _, fixed := range []uint32{0, 1, 0x80000000, 0xffffffff, 0x12345678} {
		for name, f := range map[string]func(uint32) uint32{
			"Mix of h":   func(x uint32) uint32 { return Mix(x, fixed) },
			"Mix with k": func(x uint32) uint32 { return Mix(fixed, x) },
			"End of h":   func(x uint32) uint32 { return End(x, fixed) },
			"End with n": func(x uint32) uint32 { return End(fixed, x) },
		} {
			for _, step := range []uint32{1, many, 65537 * 3} {
				var l []uint32
				for i := range uint32(many) {
					l = append(l, f(i*step-many/2))
				}
				slices.Sort(l)
				if n := len(slices.Compact(l)); n != many {
					t.Errorf("%s, %x fixed: %d of %d are different", name, fixed, n, many)
				}
			}
		}
	}
}
