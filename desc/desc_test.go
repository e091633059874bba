package desc

import (
	"encoding/binary"
	"encoding/hex"
	"math"
	"math/rand"
	"strings"
	"testing"

	"waymaster/api"
)

const last = math.MaxUint32

// words are numbers for Id and Flow: the least and greatest ones, and those that have something in one byte only, or a different thing in each.
var words = []uint32{0, 1, 2, 255, 256, 65535, 65536, 1 << 24, 1<<31 - 1, 1 << 31, last - 1, last, 0x01020304, 0xFFEEDDCC}

// lens are valid ones, with both ends.
var lens = []uint32{1, 2, 60, 255, 256, 257, 1500, 32768, 65280, 65534, 65535}

// noLens are not: beside the ends, and those whose lower bytes alone would be valid.
var noLens = []uint32{0, 65536, 65537, 65536 + 1500, 131071, 1 << 24, 1<<24 + 1, 1<<31 - 1, 1 << 31, 1<<31 + 1, last - 1, last}

// samples are valid descriptors, done and not.
func samples() []api.Desc {
	var l []api.Desc
	for _, id := range words {
		for _, n := range lens {
			for _, flow := range words {
				l = append(l, api.Desc{Id: id, Len: n, Flow: flow}, api.Desc{Id: id, Len: n, Flow: flow, Done: true})
			}
		}
	}
	return l
}

// few are some of them, where each is tried thousands of times.
func few() []api.Desc {
	return []api.Desc{
		{Id: 1, Len: 2, Flow: 3},
		{Id: 1, Len: 2, Flow: 3, Done: true},
		{Len: 1},
		{Len: 1, Done: true},
		{Len: 256},
		{Id: last, Len: 65535, Flow: last},
		{Id: last, Len: 65535, Flow: last, Done: true},
		{Id: 0x01020304, Len: 1500, Flow: 0xFFEEDDCC},
	}
}

// byHand is a text of the encoding's form, with the kind and the last bytes as told and the checksum that they need, of any numbers, by other means than the package's.
func byHand(id, n, flow uint32, kind, tail1, tail2 byte) string {
	var b []byte
	for _, x := range []uint32{id, n, flow} {
		b = binary.LittleEndian.AppendUint32(b, x)
	}
	b = append(b, kind)
	sum := byte(0x5A)
	for _, x := range b {
		sum ^= x
	}
	return string(append(b, sum, tail1, tail2))
}

// encoded is the encoding of a descriptor by hand.
func encoded(d api.Desc) string {
	if d.Done {
		return byHand(d.Id, d.Len, d.Flow, 2, 0, 0)
	}
	return byHand(d.Id, d.Len, d.Flow, 1, 0, 0)
}

// bytesOf reads a line of hexadecimal bytes.
func bytesOf(t *testing.T, line string) string {
	t.Helper()
	b, err := hex.DecodeString(strings.ReplaceAll(line, " ", ""))
	if err != nil {
		t.Fatal(err)
	}
	return string(b)
}

// refused asks that a text is no encoding, with zero values beside the error.
func refused(t *testing.T, s string) {
	t.Helper()
	if d, e := Decode(s); d != (api.Desc{}) || e != api.ErrDesc {
		t.Errorf("Decode(%x) = %v, %d", s, d, e)
	}
	if u, e := Finish(s); u != "" || e != api.ErrDesc {
		t.Errorf("Finish(%x) = %x, %d", s, u, e)
	}
}

// P2.1, Right: every Len up to beyond the greatest one, and wrong ones, whatever the other fields are.
func TestRight(t *testing.T) {
	for n := range uint32(3 * 65536) {
		if got, want := Right(api.Desc{Len: n}), n != 0 && n < 65536; got != want {
			t.Errorf("Right of Len %d = %v", n, got)
		}
	}
	for _, w := range words {
		for _, done := range []bool{false, true} {
			for _, n := range lens {
				if !Right(api.Desc{Id: w, Len: n, Flow: ^w, Done: done}) {
					t.Errorf("Right of Id %d, Len %d is false", w, n)
				}
			}
			for _, n := range noLens {
				if Right(api.Desc{Id: w, Len: n, Flow: ^w, Done: done}) {
					t.Errorf("Right of Id %d, Len %d is true", w, n)
				}
			}
		}
	}
}

// P2.1: the example, and the ends of every field, written out byte by byte.
func TestWrittenOut(t *testing.T) {
	for _, c := range []struct {
		d    api.Desc
		want string
	}{
		{api.Desc{Id: 1, Len: 2, Flow: 3}, "01 00 00 00 02 00 00 00 03 00 00 00 01 5b 00 00"},
		{api.Desc{Id: 1, Len: 2, Flow: 3, Done: true}, "01 00 00 00 02 00 00 00 03 00 00 00 02 58 00 00"},
		{api.Desc{Len: 1}, "00 00 00 00 01 00 00 00 00 00 00 00 01 5a 00 00"},
		{api.Desc{Len: 1, Done: true}, "00 00 00 00 01 00 00 00 00 00 00 00 02 59 00 00"},
		{api.Desc{Len: 65535}, "00 00 00 00 ff ff 00 00 00 00 00 00 01 5b 00 00"},
		{api.Desc{Id: last, Len: 65535, Flow: last, Done: true}, "ff ff ff ff ff ff 00 00 ff ff ff ff 02 58 00 00"},
		{api.Desc{Id: 0x04030201, Len: 0x0605, Flow: 0x0a090807}, "01 02 03 04 05 06 00 00 07 08 09 0a 01 50 00 00"},
	} {
		want := bytesOf(t, c.want)
		if got, e := Encode(c.d); got != want || e != api.OK {
			t.Errorf("Encode(%v) = %x, %d, want %x", c.d, got, e, want)
		}
		if got, e := Decode(want); got != c.d || e != api.OK {
			t.Errorf("Decode(%x) = %v, %d, want %v", want, got, e, c.d)
		}
	}
}

// P2.1: valid descriptors of all kinds are encoded as by hand, and decoded as they were.
func TestEncodeDecode(t *testing.T) {
	for _, d := range samples() {
		s, e := Encode(d)
		if s != encoded(d) || len(s) != api.DescSize || e != api.OK {
			t.Errorf("Encode(%v) = %x, %d, want %x", d, s, e, encoded(d))
		}
		if got, e := Decode(encoded(d)); got != d || e != api.OK {
			t.Errorf("Decode(%x) = %v, %d, want %v", encoded(d), got, e, d)
		}
	}
}

// P2.1: a Len that is not valid is neither encoded nor decoded, though all else of the text is right.
func TestWrongLen(t *testing.T) {
	for _, n := range noLens {
		for _, w := range words {
			for _, done := range []bool{false, true} {
				d := api.Desc{Id: w, Len: n, Flow: ^w, Done: done}
				if s, e := Encode(d); s != "" || e != api.ErrDesc {
					t.Errorf("Encode(%v) = %x, %d", d, s, e)
				}
				refused(t, encoded(d))
			}
		}
	}
}

// P2.1: texts of every other length: cut at either end, with more at either end, doubled, empty.
func TestWrongLength(t *testing.T) {
	refused(t, "")
	for _, d := range few() {
		s := encoded(d)
		for k := 1; k <= len(s); k++ {
			refused(t, s[k:])
			refused(t, s[:len(s)-k])
			refused(t, s+s[:k])
			refused(t, s[len(s)-k:]+s)
			refused(t, s+strings.Repeat("\x00", k))
			refused(t, strings.Repeat("\x00", k)+s)
		}
		refused(t, strings.Repeat(s, 1000))
	}
	for k := range 100 {
		refused(t, strings.Repeat("\x00", k))
		refused(t, strings.Repeat("\x01", k))
		refused(t, strings.Repeat("\xff", k))
	}
}

// P2.1: every kind byte but 1 and 2 is refused, with the checksum that it needs as well.
func TestWrongKind(t *testing.T) {
	for _, d := range few() {
		for k := range 256 {
			if s := byHand(d.Id, d.Len, d.Flow, byte(k), 0, 0); k != 1 && k != 2 {
				refused(t, s)
			}
		}
	}
}

// P2.1: every wrong checksum is refused.
func TestWrongChecksum(t *testing.T) {
	for _, d := range few() {
		s := encoded(d)
		for k := range 256 {
			if byte(k) != s[13] {
				refused(t, s[:13]+string([]byte{byte(k), 0, 0}))
			}
		}
	}
}

// P2.1: last bytes that are not 0 are refused, one of them or both, the same in both too.
func TestWrongTail(t *testing.T) {
	for _, d := range few() {
		kind := encoded(d)[12]
		for k := 1; k < 256; k++ {
			for _, tail := range [][2]byte{{byte(k), 0}, {0, byte(k)}, {byte(k), byte(k)}, {byte(k), 1}, {255, byte(k)}} {
				refused(t, byHand(d.Id, d.Len, d.Flow, kind, tail[0], tail[1]))
			}
		}
	}
}

// P2.2: Finish sets Done and changes nothing else; what is done already is refused.
func TestFinish(t *testing.T) {
	for _, d := range samples() {
		s := encoded(d)
		u, e := Finish(s)
		if d.Done {
			if u != "" || e != api.ErrDesc {
				t.Errorf("Finish of %v, which is done, = %x, %d", d, u, e)
			}
			continue
		}
		done := d
		done.Done = true
		if u != encoded(done) || e != api.OK {
			t.Errorf("Finish(%x) = %x, %d, want %x", s, u, e, encoded(done))
		}
		if again, e := Finish(u); again != "" || e != api.ErrDesc {
			t.Errorf("Finish(%x) = %x, %d", u, again, e)
		}
		if s != encoded(d) {
			t.Errorf("Finish changed its argument to %x", s)
		}
	}
}

// P2.3: no two descriptors have one encoding; all of the Lens, and samples of all else.
func TestOneToOne(t *testing.T) {
	seen := map[string]api.Desc{}
	see := func(d api.Desc) {
		s, e := Encode(d)
		if e != api.OK {
			t.Fatalf("Encode(%v): %d", d, e)
		}
		if other, ok := seen[s]; ok && other != d {
			t.Errorf("%v and %v have the encoding %x", other, d, s)
		}
		seen[s] = d
		if back, e := Decode(s); back != d || e != api.OK {
			t.Errorf("%v comes back as %v, %d", d, back, e)
		}
	}
	for n := uint32(1); n <= api.MaxLen; n++ {
		see(api.Desc{Id: 7, Len: n, Flow: 9})
		see(api.Desc{Id: 7, Len: n, Flow: 9, Done: true})
	}
	for _, d := range samples() {
		see(d)
	}
}

// P2.3: an encoding of which any one byte was changed, to anything, is none.
func TestOneByteChanged(t *testing.T) {
	for _, d := range few() {
		s := encoded(d)
		for at := range len(s) {
			for k := range 256 {
				if byte(k) != s[at] {
					refused(t, s[:at]+string([]byte{byte(k)})+s[at+1:])
				}
			}
		}
	}
}

// P2.3 and P2.1: of texts with two bytes changed alike the checksum cannot tell; each is either refused or the encoding of what is decoded.
func TestTwoBytesChanged(t *testing.T) {
	for _, d := range few() {
		s := encoded(d)
		for i := range len(s) {
			for j := range i {
				for bit := range 8 {
					b := []byte(s)
					b[i] ^= 1 << bit
					b[j] ^= 1 << bit
					checkText(t, string(b))
				}
			}
		}
	}
}

// checkText asks that what is told of 16 bytes is what reading them by hand tells.
func checkText(t *testing.T, s string) {
	t.Helper()
	b := []byte(s)
	d := api.Desc{Id: binary.LittleEndian.Uint32(b), Len: binary.LittleEndian.Uint32(b[4:]), Flow: binary.LittleEndian.Uint32(b[8:]), Done: b[12] == 2}
	if d.Len == 0 || d.Len > 65535 || s != encoded(d) {
		refused(t, s)
		return
	}
	if got, e := Decode(s); got != d || e != api.OK {
		t.Errorf("Decode(%x) = %v, %d, want %v", s, got, e, d)
	}
}

// P2.1: many texts, most of them nearly encodings, from a fixed seed.
func TestManyTexts(t *testing.T) {
	r := rand.New(rand.NewSource(2))
	for range 100000 {
		b := []byte(byHand(r.Uint32(), r.Uint32()>>r.Intn(32), r.Uint32(), byte(r.Intn(4)), byte(r.Intn(8)/7), byte(r.Intn(8)/7)))
		if r.Intn(4) == 0 {
			b[r.Intn(len(b))] ^= 1 << r.Intn(8)
		}
		checkText(t, string(b))
	}
}

// The visit of numbers can be left early and gone through again, and passes over what is less than a number.
func TestNumbersLeftEarly(t *testing.T) {
	visit := numbers("\x01\x00\x00\x00\x00\x02\x00\x00\x00\x00\x00\x03\x04\x04")
	for range 2 {
		var got []uint32
		for i, n := range visit {
			got = append(got, n)
			if i == 1 {
				break
			}
		}
		if len(got) != 2 || got[0] != 1 || got[1] != 512 {
			t.Errorf("visited %v", got)
		}
	}
	count := 0
	for range visit {
		count++
	}
	if count != 3 {
		t.Errorf("%d numbers", count)
	}
}
