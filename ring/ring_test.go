package ring

import (
	"encoding/binary"
	"math"
	"math/rand"
	"slices"
	"strconv"
	"testing"

	"waymaster/api"
)

const (
	last = math.MaxUint32
	half = 1 << 31
)

// sizes are all of them, written out so that no rule of the program is used to find them.
var sizes = []int{1, 2, 4, 8, 16, 32, 64, 128, 256, 512, 1024, 2048, 4096}

// noSizes are numbers that are none: neighbours of sizes, greater powers of two, and those whose lower bits alone would be a size.
func noSizes() []int {
	l := []int{0, -1, -2, -4, -4096, math.MinInt, math.MinInt32, 3, 5, 6, 7, 9, 12, 100, 1000, 4095, 4097, 6144, math.MaxInt32, math.MaxInt}
	for e := 13; e < strconv.IntSize; e++ {
		l = append(l, 1<<e, 1<<e+4)
	}
	return l
}

// firsts are first indexes, from most of which the indexes soon wrap round or change their upper bit.
var firsts = []uint32{0, 1, 2, 3, 5, 4095, 4096, 1000003, half - 3, half - 1, half, half + 1, last - 4095, last - 4094, last - 7, last - 2, last - 1, last}

// wrong are descriptors that are not valid or have Done set, or both.
var wrong = []api.Desc{
	{},
	{Id: 1, Flow: 2},
	{Id: 1, Len: 65536, Flow: 2},
	{Len: 65537},
	{Len: 1 << 24},
	{Len: 1 << 31},
	{Id: last, Len: last, Flow: last},
	{Id: 1, Len: 9, Done: true},
	{Len: 1, Done: true},
	{Len: 65535, Done: true},
	{Done: true},
	{Id: 3, Len: 65536, Done: true},
}

// sample is the nth valid descriptor: no two have one Id, and both ends of Len come up often.
func sample(n int64) api.Desc {
	d := api.Desc{Id: uint32(n), Len: uint32(n*7919%65535) + 1, Flow: ^uint32(n * 31)}
	switch n % 5 {
	case 1:
		d.Len = 1
	case 3:
		d.Len = 65535
	}
	return d
}

// done is a descriptor with Done set.
func done(d api.Desc) api.Desc {
	d.Done = true
	return d
}

// encoded is the encoding of a descriptor, by other means than the program's.
func encoded(d api.Desc) string {
	var b []byte
	for _, n := range []uint32{d.Id, d.Len, d.Flow} {
		b = binary.LittleEndian.AppendUint32(b, n)
	}
	if d.Done {
		b = append(b, 2)
	} else {
		b = append(b, 1)
	}
	sum := byte(0x5A)
	for _, x := range b {
		sum ^= x
	}
	return string(append(b, sum, 0, 0))
}

// model is what a ring must do, told by counts of all that ever happened to it.
type model struct {
	size                                    int
	first                                   uint32
	cleaned, finished, fetched, rung, stood int64 // as the indexes are ordered
	all                                     []api.Desc
}

func (m *model) post(d api.Desc) api.Errno {
	if d.Len == 0 || d.Len > 65535 || d.Done {
		return api.ErrDesc
	}
	if m.stood-m.cleaned == int64(m.size) {
		return api.ErrFull
	}
	m.all = append(m.all, d)
	m.stood++
	return api.OK
}

// next counts one on, up to what stands ahead of it, and tells the descriptor.
func (m *model) next(count *int64, ahead int64, isDone bool) (api.Desc, api.Errno) {
	if *count == ahead {
		return api.Desc{}, api.ErrEmpty
	}
	d := m.all[*count]
	*count++
	d.Done = isDone
	return d, api.OK
}

func (m *model) marks() []uint32 {
	var l []uint32
	for _, n := range []int64{m.cleaned, m.finished, m.fetched, m.rung, m.stood} {
		l = append(l, uint32((int64(m.first)+n)%(1<<32)))
	}
	return l
}

func (m *model) slots() []string {
	l := make([]string, m.size)
	for n := m.cleaned; n < m.stood; n++ {
		d := m.all[n]
		d.Done = n < m.finished
		l[(int64(m.first)+n)%(1<<32)%int64(m.size)] = encoded(d)
	}
	return l
}

// pair is a ring and what it must do.
type pair struct {
	t *testing.T
	r *Ring
	m *model
}

func newPair(t *testing.T, size int, first uint32) *pair {
	t.Helper()
	r, e := New(size, first)
	if r == nil || e != api.OK {
		t.Fatalf("New(%d, %d) = %v, %d", size, first, r, e)
	}
	return &pair{t, r, &model{size: size, first: first}}
}

// do performs one operation on both, by its letter, and asks that both answer the same.
func (p *pair) do(op byte) {
	p.t.Helper()
	var got, want api.Desc
	var e, code api.Errno
	switch op {
	case 'p':
		d := sample(p.m.stood)
		e, code = p.r.Post(d), p.m.post(d)
	case 'b':
		e, p.m.rung = p.r.Bell(), p.m.stood
	case 'f':
		got, e = p.r.Fetch()
		want, code = p.m.next(&p.m.fetched, p.m.rung, false)
	case 'd':
		got, e = p.r.Finish()
		want, code = p.m.next(&p.m.finished, p.m.fetched, true)
	case 'c':
		got, e = p.r.Clean()
		want, code = p.m.next(&p.m.cleaned, p.m.finished, true)
	}
	if got != want || e != code {
		p.t.Fatalf("size %d, first %d, %v: %c answers %v, %d, want %v, %d", p.m.size, p.m.first, p.m.marks(), op, got, e, want, code)
	}
}

// look asks that the ring shows what it must.
func (p *pair) look() {
	p.t.Helper()
	if got, want := p.r.Marks(), p.m.marks(); !slices.Equal(got, want) {
		p.t.Fatalf("size %d, first %d: Marks() = %v, want %v", p.m.size, p.m.first, got, want)
	}
	if got, want := p.r.Slots(), p.m.slots(); !slices.Equal(got, want) {
		p.t.Fatalf("size %d, first %d, %v: Slots() = %x, want %x", p.m.size, p.m.first, p.m.marks(), got, want)
	}
}

// doAll performs operations by their letters, and looks after each.
func (p *pair) doAll(ops string) {
	p.t.Helper()
	for i := range len(ops) {
		p.do(ops[i])
		p.look()
	}
}

// P3.1, New: every size, with every first index: all indexes are it, and all slots are empty.
func TestNew(t *testing.T) {
	for _, size := range sizes {
		for _, first := range firsts {
			r, e := New(size, first)
			if r == nil || e != api.OK {
				t.Fatalf("New(%d, %d) = %v, %d", size, first, r, e)
			}
			if got := r.Marks(); !slices.Equal(got, []uint32{first, first, first, first, first}) {
				t.Errorf("New(%d, %d): Marks() = %v", size, first, got)
			}
			if got := r.Slots(); !slices.Equal(got, make([]string, size)) {
				t.Errorf("New(%d, %d): Slots() = %x", size, first, got)
			}
		}
	}
}

// P3.1, New: what is no size.
func TestNewOfNoSize(t *testing.T) {
	for _, n := range noSizes() {
		for _, first := range firsts {
			if r, e := New(n, first); r != nil || e != api.ErrArg {
				t.Errorf("New(%d, %d) = %v, %d", n, first, r, e)
			}
		}
	}
}

// P3.1 and P3.2: the document's example of size 1, written out.
func TestExample(t *testing.T) {
	r, _ := New(1, 0)
	d := api.Desc{Id: 1, Len: 2, Flow: 3}
	if a, b := r.Post(d), r.Post(d); a != api.OK || b != api.ErrFull {
		t.Errorf("Post twice: %d, %d", a, b)
	}
	if x, e := r.Fetch(); x != (api.Desc{}) || e != api.ErrEmpty {
		t.Errorf("Fetch ahead of the bell: %v, %d", x, e)
	}
	if e := r.Bell(); e != api.OK {
		t.Errorf("Bell: %d", e)
	}
	if got := r.Slots(); !slices.Equal(got, []string{"\x01\x00\x00\x00\x02\x00\x00\x00\x03\x00\x00\x00\x01\x5b\x00\x00"}) {
		t.Errorf("Slots() = %x", got)
	}
	if x, e := r.Fetch(); x != d || e != api.OK {
		t.Errorf("Fetch: %v, %d", x, e)
	}
	if x, e := r.Finish(); x != done(d) || e != api.OK {
		t.Errorf("Finish: %v, %d", x, e)
	}
	if got := r.Slots(); !slices.Equal(got, []string{"\x01\x00\x00\x00\x02\x00\x00\x00\x03\x00\x00\x00\x02\x58\x00\x00"}) {
		t.Errorf("Slots() = %x", got)
	}
	if x, e := r.Clean(); x != done(d) || e != api.OK {
		t.Errorf("Clean: %v, %d", x, e)
	}
	if got := r.Slots(); !slices.Equal(got, []string{""}) {
		t.Errorf("Slots() = %x", got)
	}
	if e := r.Post(d); e != api.OK {
		t.Errorf("Post again: %d", e)
	}
	if got := r.Marks(); !slices.Equal(got, []uint32{1, 1, 1, 1, 2}) {
		t.Errorf("Marks() = %v", got)
	}
}

// P3.1, Post: both ends of Len, and of the other fields, are taken as they are.
func TestPostEnds(t *testing.T) {
	for _, d := range []api.Desc{{Len: 1}, {Len: 65535}, {Id: last, Len: 1, Flow: last}, {Id: last, Len: 65535, Flow: 0}, {Id: half, Len: 256, Flow: half}} {
		r, _ := New(2, last)
		if e := r.Post(d); e != api.OK {
			t.Errorf("Post(%v) = %d", d, e)
		}
		if got := r.Slots(); got[0] != "" || got[1] != encoded(d) {
			t.Errorf("Post(%v): Slots() = %x", d, got)
		}
		r.Bell()
		if x, e := r.Fetch(); x != d || e != api.OK {
			t.Errorf("Fetch of %v: %v, %d", d, x, e)
		}
	}
}

// P3.1, Post: what is not valid, or has Done set, is ErrDesc, on a full ring too, and changes nothing; of a nil ring it is ErrNil.
func TestPostWrong(t *testing.T) {
	var none *Ring
	for _, size := range []int{1, 2, 4096} {
		for _, first := range firsts {
			p := newPair(t, size, first)
			refuse := func() {
				t.Helper()
				for _, d := range wrong {
					if e := p.r.Post(d); e != api.ErrDesc {
						t.Errorf("size %d, %v: Post(%v) = %d", size, p.r.Marks(), d, e)
					}
				}
				p.look()
			}
			refuse()
			for range size {
				p.do('p')
			}
			refuse()
			if e := p.r.Post(sample(0)); e != api.ErrFull {
				t.Errorf("size %d: Post on a full ring = %d", size, e)
			}
			refuse()
		}
	}
	for _, d := range append(slices.Clone(wrong), sample(1)) {
		if e := none.Post(d); e != api.ErrNil {
			t.Errorf("Post(%v) on a nil ring = %d", d, e)
		}
	}
}

// P3.1 and P3.2: every call on a nil ring, and on one that no call has returned.
func TestNil(t *testing.T) {
	for _, r := range []*Ring{nil, {}} {
		for range 2 {
			if e := r.Post(sample(1)); e != api.ErrNil {
				t.Errorf("Post: %d", e)
			}
			if e := r.Bell(); e != api.ErrNil {
				t.Errorf("Bell: %d", e)
			}
			for i, call := range []func() (api.Desc, api.Errno){r.Fetch, r.Finish, r.Clean} {
				if d, e := call(); d != (api.Desc{}) || e != api.ErrNil {
					t.Errorf("call %d: %v, %d", i, d, e)
				}
			}
			if got := r.Marks(); len(got) != 0 {
				t.Errorf("Marks: %v", got)
			}
			if got := r.Slots(); len(got) != 0 {
				t.Errorf("Slots: %x", got)
			}
		}
	}
}

// P3.1, Bell: it shows what was posted until then and nothing later, and may be rung again, with nothing new too.
func TestBell(t *testing.T) {
	for _, first := range firsts {
		newPair(t, 4, first).doAll("bbfppffbfpffbbfffppbff")
	}
}

// P3.2: nothing to fetch, to finish or to clean, wherever a descriptor stands: not there, posted and not yet rung, rung and not yet fetched, fetched and not yet finished, finished, cleaned.
func TestWhereOneStands(t *testing.T) {
	for _, size := range sizes {
		for _, first := range firsts {
			p := newPair(t, size, first)
			for _, ops := range []string{"fdc", "pdcf", "bdc", "fdcc", "dcfd", "cdfc", "bfdc"} {
				for i := range len(ops) {
					p.do(ops[i])
				}
				p.look()
			}
		}
	}
	for _, c := range []struct {
		ops  string
		code []api.Errno // of Fetch, Finish and Clean, each on a ring of its own
	}{
		{"", []api.Errno{api.ErrEmpty, api.ErrEmpty, api.ErrEmpty}},
		{"p", []api.Errno{api.ErrEmpty, api.ErrEmpty, api.ErrEmpty}},
		{"pb", []api.Errno{api.OK, api.ErrEmpty, api.ErrEmpty}},
		{"pbf", []api.Errno{api.ErrEmpty, api.OK, api.ErrEmpty}},
		{"pbfd", []api.Errno{api.ErrEmpty, api.ErrEmpty, api.OK}},
		{"pbfdc", []api.Errno{api.ErrEmpty, api.ErrEmpty, api.ErrEmpty}},
		{"pbp", []api.Errno{api.OK, api.ErrEmpty, api.ErrEmpty}},
		{"ppbf", []api.Errno{api.OK, api.OK, api.ErrEmpty}},
		{"ppbffd", []api.Errno{api.ErrEmpty, api.OK, api.OK}},
		{"pppbffd", []api.Errno{api.OK, api.OK, api.OK}},
	} {
		for _, first := range firsts {
			for i, want := range c.code {
				p := newPair(t, 4, first)
				p.doAll(c.ops)
				call := []func() (api.Desc, api.Errno){p.r.Fetch, p.r.Finish, p.r.Clean}[i]
				if d, e := call(); e != want || (e != api.OK && d != api.Desc{}) {
					t.Errorf("after %q, call %d: %v, %d, want %d", c.ops, i, d, e, want)
				}
				if want != api.OK {
					p.look()
				}
			}
		}
	}
}

// P3.1 and P3.2: a ring of every size is filled, refuses one more at each stage until one is cleaned, and is emptied again, over and over, across the wrap.
func TestFullAndEmpty(t *testing.T) {
	for _, size := range sizes {
		for _, first := range []uint32{0, half - 5, last - 4095, last - 1, last} {
			p := newPair(t, size, first)
			for range 2 {
				for _, op := range []byte("pbfd") {
					if op == 'b' {
						p.do('f')
						p.do(op)
					} else {
						for range size {
							p.do(op)
						}
						p.do(op) // one more is refused
					}
					p.do('p') // full all the while
					p.look()
				}
				p.doAll("cpp") // one place, and no more
				for range size {
					p.do('c')
				}
				p.look()
				for _, op := range []byte("fbffddcc") {
					p.do(op)
				}
				p.look()
			}
			if p.m.stood != 2*int64(size+1) || p.m.cleaned != p.m.stood {
				t.Errorf("size %d: %d posted, %d cleaned", size, p.m.stood, p.m.cleaned)
			}
		}
	}
}

// P3.2: Marks and Slots are new memory: changing what one answered changes neither the ring nor another answer.
func TestAnswersAreNew(t *testing.T) {
	p := newPair(t, 4, last)
	p.doAll("pppbffd")
	m, s := p.r.Marks(), p.r.Slots()
	m2, s2 := p.r.Marks(), p.r.Slots()
	spoil := m[:cap(m)]
	for i := range spoil {
		spoil[i] = 77
	}
	texts := s[:cap(s)]
	for i := range texts {
		texts[i] = "x"
	}
	if !slices.Equal(m2, p.m.marks()) || !slices.Equal(s2, p.m.slots()) {
		t.Error("two answers share memory")
	}
	p.look()
	p.doAll("fddccc")
}

// P3.2: an answer of Slots stays as it was when the ring goes on.
func TestAnswersStay(t *testing.T) {
	p := newPair(t, 2, 0)
	p.doAll("ppbf")
	m, s, want := p.r.Marks(), p.r.Slots(), p.m.slots()
	p.doAll("dcpbffddcc")
	if !slices.Equal(m, []uint32{0, 0, 1, 2, 2}) || !slices.Equal(s, want) {
		t.Errorf("Marks %v, Slots %x", m, s)
	}
}

// R4: rings do not share anything.
func TestTwoRings(t *testing.T) {
	a, b := newPair(t, 2, 0), newPair(t, 2, 0)
	a.doAll("ppb")
	b.look()
	b.doAll("pbfd")
	a.look()
	a.doAll("ffddcc")
	b.doAll("c")
}

// empties is how many slots hold nothing: Slots does not visit all of them.
func empties(p *pair) int {
	n := 0
	for _, s := range p.r.slots {
		if s == (slot{}) {
			n++
		}
	}
	return n
}

// P3.2 and P3.3: many operations in a mixed order, from fixed seeds, on rings of many sizes and first indexes.
func TestMany(t *testing.T) {
	r := rand.New(rand.NewSource(3))
	for _, size := range []int{1, 2, 4, 8, 64} {
		for _, first := range firsts {
			p := newPair(t, size, first)
			likely := "pbfdc"
			for k := range 1500 {
				if k%50 == 0 { // now one of them comes more often, now another
					likely = "pbfdc" + string("pppbfdc"[r.Intn(7)]) + "pbfdc"[r.Intn(5):]
				}
				p.do(likely[r.Intn(len(likely))])
				p.look()
				held := p.m.stood - p.m.cleaned
				if held > int64(size) || empties(p) != size-int(held) {
					t.Fatalf("size %d: %d held, %d slots empty", size, held, empties(p))
				}
			}
		}
	}
}

// trip is what went into a ring and what came by at each place.
type trip struct{ posted, fetched, finished, cleaned []api.Desc }

// drive posts as many as asked and lets each of the others happen up to so many times as it tells.
func (p *trip) drive(g *Ring, posts int, times func() int) {
	for range posts {
		d := sample(int64(len(p.posted)))
		if g.Post(d) == api.OK {
			p.posted = append(p.posted, d)
		}
	}
	g.Bell()
	calls := []func() (api.Desc, api.Errno){g.Fetch, g.Finish, g.Clean}
	for i, l := range []*[]api.Desc{&p.fetched, &p.finished, &p.cleaned} {
		for range times() {
			if d, e := calls[i](); e == api.OK {
				*l = append(*l, d)
			}
		}
	}
}

// P3.3: what is cleaned is what was posted, in the same order, each once; told without the model, through whole turns of rings.
func TestSameOrder(t *testing.T) {
	r := rand.New(rand.NewSource(4))
	for _, size := range sizes {
		for _, first := range []uint32{0, half - 9, last - 4095, last} {
			g, _ := New(size, first)
			var p trip
			for range 40 {
				most := 1 + r.Intn(size+1)
				p.drive(g, most, func() int { return r.Intn(most + 1) })
				if len(p.posted)-len(p.cleaned) > size {
					t.Fatalf("size %d: %d held", size, len(p.posted)-len(p.cleaned))
				}
			}
			p.drive(g, 0, func() int { return size })
			if len(p.posted) < 2*size {
				t.Errorf("size %d: %d posted", size, len(p.posted))
			}
			var want []api.Desc
			for _, d := range p.posted {
				want = append(want, done(d))
			}
			if !slices.Equal(p.fetched, p.posted) || !slices.Equal(p.finished, want) || !slices.Equal(p.cleaned, want) {
				t.Errorf("size %d, first %d: %d posted, %d fetched, %d finished, %d cleaned, or in another order", size, first, len(p.posted), len(p.fetched), len(p.finished), len(p.cleaned))
			}
		}
	}
}

// answers is all that a ring tells of some operations: what each returns, the indexes less the first one, and the slots beginning with that of the first index.
func answers(size int, first uint32, ops []byte) []string {
	r, _ := New(size, first)
	var l []string
	for n, op := range ops {
		var d api.Desc
		var e api.Errno
		switch op {
		case 'p':
			e = r.Post(sample(int64(n)))
		case 'b':
			e = r.Bell()
		case 'f':
			d, e = r.Fetch()
		case 'd':
			d, e = r.Finish()
		case 'c':
			d, e = r.Clean()
		}
		l = append(l, encoded(d), strconv.Itoa(int(e)))
		for _, m := range r.Marks() {
			l = append(l, strconv.Itoa(int(m-first)))
		}
		slots := r.Slots()
		at := int(first % uint32(size))
		l = append(l, slots[at:]...)
		l = append(l, slots[:at]...)
	}
	return l
}

// P3.3: the first index affects only the indexes and which slots are used.
func TestFirstIndex(t *testing.T) {
	r := rand.New(rand.NewSource(5))
	for _, size := range []int{1, 2, 8, 32} {
		ops := make([]byte, 400)
		for i := range ops {
			ops[i] = "ppbfffdddccc"[r.Intn(12)]
		}
		want := answers(size, 0, ops)
		for _, first := range firsts {
			if !slices.Equal(answers(size, first, ops), want) {
				t.Errorf("size %d: with the first index %d the ring answers otherwise", size, first)
			}
		}
	}
}

// The visit of slots begins at any index, ends after one round, can be left early and gone through again.
func TestAround(t *testing.T) {
	p := newPair(t, 4, last)
	p.doAll("ppp")
	visit := p.r.around(last - 1)
	for range 2 {
		var places []int
		for place, text := range visit {
			if text != p.m.slots()[place] {
				t.Errorf("slot %d: %x", place, text)
			}
			places = append(places, place)
		}
		if !slices.Equal(places, []int{2, 3, 0, 1}) {
			t.Errorf("visited %v", places)
		}
		count := 0
		for range visit {
			count++
			if count == 2 {
				break
			}
		}
		if count != 2 {
			t.Errorf("left after %d", count)
		}
	}
}
