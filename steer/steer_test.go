package steer

import (
	"math"
	"math/rand"
	"slices"
	"testing"

	"waymaster/api"
)

// farInts are numbers far from any queue, processor or priority, and such whose lower bits alone would be one.
var farInts = []int{math.MinInt, math.MinInt + 1, math.MinInt32, -1 << 32, -65, -64, -16, 1<<32 + 1, 1 << 32, 1<<16 + 1, 256, 257, math.MaxInt32, math.MaxInt - 1, math.MaxInt}

// wrongPrios and wrongCpus are no priorities, and no processors.
var (
	wrongPrios = append([]int{-2, -1, 16, 17, 63, 64}, farInts...)
	wrongCpus  = append([]int{-2, -1, 64, 65}, farInts...)
)

// someFlows are ten: all zeros, all the greatest numbers, and such that differ in one field.
var someFlows = []api.Flow{
	{},
	{From: math.MaxUint32, To: math.MaxUint32, Sport: 65535, Dport: 65535, Proto: 255},
	{From: 1, To: 2, Sport: 3, Dport: 4, Proto: 6},
	{From: 9, To: 2, Sport: 3, Dport: 4, Proto: 6},
	{From: 1, To: 9, Sport: 3, Dport: 4, Proto: 6},
	{From: 1, To: 2, Sport: 9, Dport: 4, Proto: 6},
	{From: 1, To: 2, Sport: 3, Dport: 9, Proto: 6},
	{From: 1, To: 2, Sport: 3, Dport: 4, Proto: 9},
	{From: 2, To: 1, Sport: 3, Dport: 4, Proto: 6},
	{From: 1, To: 2, Sport: 4, Dport: 3, Proto: 6},
}

// manyFlows are n that differ in From.
func manyFlows(n int) []api.Flow {
	var l []api.Flow
	for i := range n {
		l = append(l, api.Flow{From: uint32(i), Proto: 17})
	}
	return l
}

// made is a table of spans that are each told by two numbers; the priorities have the classes in turn.
func made(queues int, numbers ...int) api.Table {
	t := api.Table{Queues: queues}
	for i := 0; i < len(numbers); i += 2 {
		t.Spans = append(t.Spans, api.Span{Off: numbers[i], Cnt: numbers[i+1]})
	}
	for prio := range 16 {
		t.Class = append(t.Class, prio%max(1, len(t.Spans)))
	}
	return t
}

// copied is a table that shares nothing with another one.
func copied(t api.Table) api.Table {
	return api.Table{Queues: t.Queues, Class: slices.Clone(t.Class), Spans: slices.Clone(t.Spans)}
}

// equal tells whether two tables are the same.
func equal(a, b api.Table) bool {
	return a.Queues == b.Queues && slices.Equal(a.Class, b.Class) && slices.Equal(a.Spans, b.Spans)
}

// withClasses is a table with other classes of the priorities.
func withClasses(t api.Table, classes ...int) api.Table {
	t = copied(t)
	t.Class = classes
	return t
}

// upTo are the numbers from one on and below another.
func upTo(from, below int) []int {
	var l []int
	for n := from; n < below; n++ {
		l = append(l, n)
	}
	return l
}

// backwards are numbers in the other order.
func backwards(l []int) []int {
	l = slices.Clone(l)
	slices.Reverse(l)
	return l
}

// singles are 16 spans of one queue each.
func singles() api.Table {
	var numbers []int
	for i := range 16 {
		numbers = append(numbers, 15-i, 1)
	}
	return made(16, numbers...)
}

// validTables are valid, by name.
func validTables() map[string]api.Table {
	return map[string]api.Table{
		"one queue":                  made(1, 0, 1),
		"64 queues in one span":      made(64, 0, 64),
		"the last one of 64":         made(64, 63, 1),
		"two halves of 8":            made(8, 0, 4, 4, 4),
		"two halves, the other way":  made(8, 4, 4, 0, 4),
		"gaps everywhere":            made(9, 1, 1, 4, 2, 7, 1),
		"16 spans, the last first":   singles(),
		"all priorities in one of 2": withClasses(made(8, 0, 4, 4, 4), 1, 1, 1, 1, 1, 1, 1, 1, 1, 1, 1, 1, 1, 1, 1, 1),
		"here and there of 64":       withClasses(made(64, 63, 1, 0, 5, 31, 2, 40, 3), 3, 3, 3, 3, 0, 0, 0, 0, 1, 1, 2, 2, 2, 3, 0, 1),
	}
}

// invalidTables are not valid, by what is wrong with them.
func invalidTables() map[string]api.Table {
	return map[string]api.Table{
		"nothing":                 {},
		"no queues":               made(0, 0, 1),
		"65 queues":               made(65, 0, 4),
		"a negative count":        made(-1, 0, 1),
		"the greatest count":      made(math.MaxInt, 0, 1),
		"no span":                 made(4),
		"17 spans":                made(17, 0, 1, 1, 1, 2, 1, 3, 1, 4, 1, 5, 1, 6, 1, 7, 1, 8, 1, 9, 1, 10, 1, 11, 1, 12, 1, 13, 1, 14, 1, 15, 1, 16, 1),
		"an Off of -1":            made(4, -1, 2),
		"a Cnt of 0":              made(4, 0, 0),
		"a Cnt of -1":             made(4, 2, -1),
		"one queue too many":      made(4, 2, 3),
		"a sum that wraps around": made(4, 1, math.MaxInt),
		"a queue in two spans":    made(4, 0, 3, 2, 2),
		"15 classes":              withClasses(made(4, 0, 4), make([]int, 15)...),
		"17 classes":              withClasses(made(4, 0, 4), make([]int, 17)...),
		"no classes":              withClasses(made(4, 0, 4)),
		"a class of -1":           withClasses(made(4, 0, 4), 0, 0, 0, 0, 0, 0, 0, 0, 0, 0, 0, 0, 0, 0, 0, -1),
		"a class beyond":          withClasses(made(4, 0, 4), 0, 0, 0, 0, 0, 0, 0, 0, 0, 0, 0, 0, 0, 0, 0, 1),
	}
}

// wrongLists are no lists for a table of some queues: too long ones, such that have a queue that there is not, and such that have one twice.
func wrongLists(queues int) [][]int {
	all := upTo(0, queues)
	l := [][]int{
		append(upTo(0, 64), 0), upTo(-1, 64), upTo(0, 65), make([]int, 1000),
		{-1}, {queues}, append(slices.Clone(all), -1), append(slices.Clone(all), queues), upTo(-1, queues), upTo(1, queues+1),
		{0, 0}, {queues - 1, queues - 1}, append(slices.Clone(all), 0), append(slices.Clone(all), queues-1), append(slices.Clone(all), all...),
	}
	for _, far := range farInts {
		l = append(l, []int{far}, append(slices.Clone(all), far), append([]int{far}, all...))
	}
	return l
}

// modulo is what of a number fits into 32 bits.
func modulo(x uint64) uint64 { return x % (1 << 32) }

// turnedByHand is a number rotated left by 1 to 31 bits.
func turnedByHand(h uint64, n int) uint64 { return modulo(h<<n) + h>>(32-n) }

// word is what a word is made into ahead of its combining with h.
func word(k uint64) uint64 {
	return modulo(turnedByHand(modulo(k*0xcc9e2d51), 15) * 0x1b873593)
}

// mixedByHand is a number mixed with another one.
func mixedByHand(h, k uint64) uint64 {
	return modulo(turnedByHand(h^word(k), 13)*5 + 0xe6546b64)
}

// hashedByHand is the hash of a flow as the document tells it, by other means than the program's.
func hashedByHand(f api.Flow, salt uint32) uint64 {
	h := uint64(salt)
	for _, k := range []uint64{uint64(f.From), uint64(f.To), uint64(f.Sport)*65536 + uint64(f.Dport), uint64(f.Proto)} {
		h = mixedByHand(h, k)
	}
	h ^= 16
	h = modulo((h ^ h>>16) * 0x85ebca6b)
	h = modulo((h ^ h>>13) * 0xc2b2ae35)
	return h ^ h>>16
}

// inverse is the number by which a multiplication by an odd one is undone; each round doubles the bits that are right.
func inverse(odd uint64) uint64 {
	x := odd
	for range 5 {
		x = modulo(x * (2 - odd*x))
	}
	return x
}

// twin is another flow whose hash with a salt is the same: From is changed, and To makes up for it.
func twin(f api.Flow, salt uint32) api.Flow {
	g := f
	g.From = f.From + 1
	want := mixedByHand(uint64(salt), uint64(f.From)) ^ word(uint64(f.To)) ^ mixedByHand(uint64(salt), uint64(g.From))
	g.To = uint32(modulo(turnedByHand(modulo(want*inverse(0x1b873593)), 17) * inverse(0xcc9e2d51)))
	return g
}

// model is what a steer must do, told from the document's words.
type model struct {
	table api.Table
	salt  uint32
	lists [64][]int
	queue map[uint64]int
	out   map[uint64]int
}

func (m *model) spanned(prio, queue int) bool {
	s := m.table.Spans[m.table.Class[prio]]
	return queue >= s.Off && queue < s.Off+s.Cnt
}

func (m *model) candidates(prio, cpu int) []int {
	var l []int
	for _, queue := range m.lists[cpu] {
		if m.spanned(prio, queue) {
			l = append(l, queue)
		}
	}
	if len(l) > 0 {
		return l
	}
	for queue := range m.table.Queues {
		if m.spanned(prio, queue) {
			l = append(l, queue)
		}
	}
	return l
}

func (m *model) choose(p api.Packet) int {
	h := hashedByHand(p.Flow, m.salt)
	if m.out[h] == 0 || !m.spanned(p.Prio, m.queue[h]) {
		l := m.candidates(p.Prio, p.Cpu)
		m.queue[h] = l[h*uint64(len(l))/4294967296]
	}
	m.out[h]++
	return m.queue[h]
}

func (m *model) done(f api.Flow) api.Errno {
	h := hashedByHand(f, m.salt)
	if m.out[h] == 0 {
		return api.ErrSteer
	}
	m.out[h]--
	return api.OK
}

func (m *model) outOf(f api.Flow) (int, int) {
	h := hashedByHand(f, m.salt)
	queue, some := m.queue[h]
	if !some {
		return -1, 0
	}
	return queue, m.out[h]
}

func (m *model) change(t api.Table) {
	m.table = copied(t)
	for cpu, l := range m.lists {
		m.lists[cpu] = slices.DeleteFunc(slices.Clone(l), func(queue int) bool { return queue >= t.Queues })
	}
}

// pair is a steer beside its model, and the flows that are looked at.
type pair struct {
	t     *testing.T
	s     *Steer
	m     model
	flows []api.Flow
}

func newPair(t *testing.T, table api.Table, salt uint32, flows ...api.Flow) *pair {
	t.Helper()
	s, e := New(copied(table), salt)
	if s == nil || e != api.OK {
		t.Fatalf("New(%v, %d) = %v, %d", table, salt, s, e)
	}
	p := &pair{t, s, model{table: copied(table), salt: salt, queue: map[uint64]int{}, out: map[uint64]int{}}, flows}
	p.look()
	return p
}

// look asks that the steer tells what it must, and twice the same.
func (p *pair) look() {
	p.t.Helper()
	for range 2 {
		p.lookAtFlows()
		for cpu := range 64 {
			for prio := range 16 {
				got, e := p.s.Candidates(prio, cpu)
				if want := p.m.candidates(prio, cpu); !slices.Equal(got, want) || e != api.OK {
					p.t.Fatalf("Candidates(%d, %d) = %v, %d, want %v", prio, cpu, got, e, want)
				}
			}
		}
	}
}

func (p *pair) lookAtFlows() {
	p.t.Helper()
	for _, f := range p.flows {
		queue, out := p.s.Out(f)
		if wantQueue, wantOut := p.m.outOf(f); queue != wantQueue || out != wantOut {
			p.t.Fatalf("Out(%v) = %d, %d, want %d, %d", f, queue, out, wantQueue, wantOut)
		}
	}
}

func (p *pair) mapTo(cpu int, queues ...int) {
	p.t.Helper()
	if e := p.s.Map(cpu, slices.Clone(queues)); e != api.OK {
		p.t.Fatalf("Map(%d, %v) = %d", cpu, queues, e)
	}
	p.m.lists[cpu] = slices.Clone(queues)
}

func (p *pair) choose(prio, cpu int, f api.Flow) int {
	p.t.Helper()
	packet := api.Packet{Id: 77, Len: 5, Prio: prio, Cpu: cpu, Flow: f}
	got, e := p.s.Choose(packet)
	if want := p.m.choose(packet); got != want || e != api.OK {
		p.t.Fatalf("Choose(%v) = %d, %d, want %d", packet, got, e, want)
	}
	return got
}

// chooses asks for a queue that the test itself tells.
func (p *pair) chooses(want, prio, cpu int, f api.Flow) {
	p.t.Helper()
	if got := p.choose(prio, cpu, f); got != want {
		p.t.Fatalf("Choose(%d, %d, %v) = %d, want %d", prio, cpu, f, got, want)
	}
}

func (p *pair) done(f api.Flow) api.Errno {
	p.t.Helper()
	got, want := p.s.Done(f), p.m.done(f)
	if got != want {
		p.t.Fatalf("Done(%v) = %d, want %d", f, got, want)
	}
	return got
}

// isDone asks that some packets of a flow can be done.
func (p *pair) isDone(f api.Flow, times int) {
	p.t.Helper()
	for range times {
		if e := p.done(f); e != api.OK {
			p.t.Fatalf("Done(%v) = %d", f, e)
		}
	}
}

// hasOut asks for a flow's queue and count that the test itself tells.
func (p *pair) hasOut(f api.Flow, queue, out int) {
	p.t.Helper()
	if q, n := p.s.Out(f); q != queue || n != out {
		p.t.Fatalf("Out(%v) = %d, %d, want %d, %d", f, q, n, queue, out)
	}
}

// hasCandidates asks for candidates that the test itself tells.
func (p *pair) hasCandidates(prio, cpu int, want ...int) {
	p.t.Helper()
	if l, e := p.s.Candidates(prio, cpu); !slices.Equal(l, want) || e != api.OK {
		p.t.Fatalf("Candidates(%d, %d) = %v, %d, want %v", prio, cpu, l, e, want)
	}
}

func (p *pair) change(t api.Table) {
	p.t.Helper()
	if e := p.s.Table(copied(t)); e != api.OK {
		p.t.Fatalf("Table(%v) = %d", t, e)
	}
	p.m.change(t)
	p.look()
}

// refuses makes calls that must be errors, and asks that they changed nothing.
func (p *pair) refuses() {
	p.t.Helper()
	for name, t := range invalidTables() {
		if e := p.s.Table(t); e != api.ErrTable {
			p.t.Fatalf("Table of %s = %d", name, e)
		}
	}
	for _, l := range wrongLists(p.m.table.Queues) {
		for _, cpu := range []int{0, 1, 63, -1, 64} {
			if e := p.s.Map(cpu, l); e != api.ErrArg {
				p.t.Fatalf("Map(%d, %v) = %d", cpu, l, e)
			}
		}
	}
	for _, f := range p.flows {
		p.refusesNumbers(f)
		if _, n := p.s.Out(f); n == 0 && p.s.Done(f) != api.ErrSteer {
			p.t.Fatalf("Done(%v) with no packet out", f)
		}
	}
	p.look()
}

// refusesNumbers makes calls with processors and priorities that there are not.
func (p *pair) refusesNumbers(f api.Flow) {
	p.t.Helper()
	wrong := func(prio, cpu int) {
		p.t.Helper()
		if l, e := p.s.Candidates(prio, cpu); len(l) != 0 || e != api.ErrArg {
			p.t.Fatalf("Candidates(%d, %d) = %v, %d", prio, cpu, l, e)
		}
		if queue, e := p.s.Choose(api.Packet{Prio: prio, Cpu: cpu, Flow: f}); queue != 0 || e != api.ErrArg {
			p.t.Fatalf("Choose(%d, %d) = %d, %d", prio, cpu, queue, e)
		}
	}
	for _, prio := range wrongPrios {
		for _, cpu := range []int{0, 1, 63, -1, 64} {
			wrong(prio, cpu)
		}
	}
	for _, cpu := range wrongCpus {
		for _, prio := range []int{0, 1, 15, -1, 16} {
			wrong(prio, cpu)
		}
		for _, l := range [][]int{nil, {0}, {-1}} {
			if e := p.s.Map(cpu, l); e != api.ErrArg {
				p.t.Fatalf("Map(%d, %v) = %d", cpu, l, e)
			}
		}
	}
}

// P9.1 and P9.2: the document's examples, written out.
func TestExamples(t *testing.T) {
	s, e := New(made(8, 0, 4, 4, 4), 5)
	if e != api.OK || s.Map(1, []int{2, 5, 3}) != api.OK {
		t.Fatal("New and Map", e)
	}
	if l, e := s.Candidates(0, 1); !slices.Equal(l, []int{2, 3}) || e != api.OK {
		t.Errorf("Candidates(0, 1) = %v, %d", l, e)
	}
	if l, e := s.Candidates(1, 0); !slices.Equal(l, []int{4, 5, 6, 7}) || e != api.OK {
		t.Errorf("Candidates(1, 0) = %v, %d", l, e)
	}
	for _, f := range someFlows {
		p := api.Packet{Prio: 1, Cpu: 1, Flow: f}
		if e := s.Map(1, []int{2, 5, 3}); e != api.OK {
			t.Errorf("Map = %d", e)
		}
		if q, e := s.Choose(p); q != 5 || e != api.OK {
			t.Errorf("Choose(%v) = %d, %d", p, q, e)
		}
		if e := s.Map(1, []int{6}); e != api.OK {
			t.Errorf("Map = %d", e)
		}
		if q, e := s.Choose(p); q != 5 || e != api.OK {
			t.Errorf("Choose(%v) = %d, %d", p, q, e)
		}
		if q, n := s.Out(f); q != 5 || n != 2 || s.Done(f) != api.OK || s.Done(f) != api.OK {
			t.Errorf("Out(%v) = %d, %d", f, q, n)
		}
		if q, e := s.Choose(p); q != 6 || e != api.OK {
			t.Errorf("Choose(%v) = %d, %d", p, q, e)
		}
	}
	for _, f := range someFlows {
		p := newPair(t, made(4, 0, 4), 0, f)
		p.mapTo(1, 2)
		p.chooses(2, 3, 1, f)
	}
}

// R4, P9.1 and P9.2: every call on a nil steer, and on one that no call has returned: ErrNil comes ahead of the others.
func TestNil(t *testing.T) {
	for _, s := range []*Steer{nil, {}} {
		for range 2 {
			for _, n := range append([]int{0, 1, 15, 63}, wrongCpus...) {
				for _, l := range [][]int{nil, {}, {0}, {-1}, {0, 0}, upTo(0, 65)} {
					if e := s.Map(n, l); e != api.ErrNil {
						t.Errorf("Map(%d, %v) = %d", n, l, e)
					}
				}
				for _, other := range []int{0, 15, 16, -1} {
					if l, e := s.Candidates(other, n); len(l) != 0 || e != api.ErrNil {
						t.Errorf("Candidates(%d, %d) = %v, %d", other, n, l, e)
					}
					if q, e := s.Choose(api.Packet{Prio: other, Cpu: n}); q != 0 || e != api.ErrNil {
						t.Errorf("Choose(%d, %d) = %d, %d", other, n, q, e)
					}
				}
			}
			for _, f := range someFlows {
				if e := s.Done(f); e != api.ErrNil {
					t.Errorf("Done(%v) = %d", f, e)
				}
				if q, n := s.Out(f); q != -1 || n != 0 {
					t.Errorf("Out(%v) = %d, %d", f, q, n)
				}
			}
			for _, table := range []api.Table{{}, made(4, 0, 4), made(4, 0, 5)} {
				if e := s.Table(table); e != api.ErrNil {
					t.Errorf("Table(%v) = %d", table, e)
				}
			}
		}
	}
}

// P9.1, New: valid tables give a steer with empty lists and no flows, the others ErrTable and no steer.
func TestNew(t *testing.T) {
	for _, salt := range []uint32{0, 1, 5, 1 << 31, math.MaxUint32} {
		for name, table := range validTables() {
			p := newPair(t, table, salt, someFlows...)
			for _, f := range someFlows {
				if q, n := p.s.Out(f); q != -1 || n != 0 {
					t.Errorf("%s: Out(%v) = %d, %d", name, f, q, n)
				}
			}
			p.refuses()
		}
		for name, table := range invalidTables() {
			if s, e := New(table, salt); s != nil || e != api.ErrTable {
				t.Errorf("New of %s = %v, %d", name, s, e)
			}
		}
	}
}

// R3: a table that was given to New or to Table is not changed, and may be changed afterwards; what is behind its slices too.
func TestTableIsNotKept(t *testing.T) {
	spoil := func(table api.Table) {
		for i := range table.Class[:cap(table.Class)] {
			table.Class[:cap(table.Class)][i] = 1
		}
		for i := range table.Spans[:cap(table.Spans)] {
			table.Spans[:cap(table.Spans)][i] = api.Span{Off: 7, Cnt: 1}
		}
	}
	given := made(8, 0, 4, 4, 4)
	before := copied(given)
	s, e := New(given, 5)
	if e != api.OK || !equal(given, before) {
		t.Errorf("New = %d, and the table is %v", e, given)
	}
	p := &pair{t, s, model{table: before, salt: 5, queue: map[uint64]int{}, out: map[uint64]int{}}, someFlows}
	spoil(given)
	p.look()
	given = made(9, 1, 1, 4, 2, 7, 1)
	before = copied(given)
	if e := s.Table(given); e != api.OK || !equal(given, before) {
		t.Errorf("Table = %d, and the table is %v", e, given)
	}
	p.m.change(before)
	spoil(given)
	p.look()
	for _, f := range someFlows {
		p.choose(2, 0, f)
	}
}

// P9.1, Map: every valid list at the first and the last processor; the others keep theirs.
func TestMap(t *testing.T) {
	p := newPair(t, made(64, 0, 32, 32, 32), 3, someFlows...)
	for _, l := range [][]int{{}, nil, {0}, {63}, {0, 63}, {63, 0}, {31, 32}, upTo(0, 64), backwards(upTo(0, 64)), upTo(0, 63), upTo(1, 64), {40, 3, 50, 2}} {
		for _, cpu := range []int{0, 63, 1, 62, 17} {
			p.mapTo(cpu, l...)
			p.look()
		}
		p.refuses()
	}
	one := newPair(t, made(1, 0, 1), 3)
	one.mapTo(0, 0)
	one.look()
	one.mapTo(63)
	one.refuses()
}

// P9.1, Map: a list that is mapped again takes the place of the one before, an empty one too.
func TestMapAgain(t *testing.T) {
	p := newPair(t, made(8, 0, 4, 4, 4), 3)
	p.mapTo(63, 2, 5, 3)
	p.hasCandidates(0, 63, 2, 3)
	p.mapTo(63, 1)
	p.hasCandidates(0, 63, 1)
	p.hasCandidates(1, 63, 4, 5, 6, 7)
	p.mapTo(63)
	p.hasCandidates(0, 63, 0, 1, 2, 3)
	p.mapTo(63, 7, 6)
	p.hasCandidates(1, 63, 7, 6)
	p.hasCandidates(1, 62, 4, 5, 6, 7)
	p.hasCandidates(1, 0, 4, 5, 6, 7)
	p.look()
}

// P9.1, Map: a list that is refused leaves the one that there was, at any processor, of tables of any size.
func TestMapWrong(t *testing.T) {
	for _, queues := range []int{1, 2, 5, 63, 64} {
		p := newPair(t, made(queues, 0, queues), 0, someFlows...)
		p.mapTo(0, queues-1)
		p.mapTo(1, backwards(upTo(0, queues))...)
		p.mapTo(63, 0)
		p.look()
		p.refuses()
		p.hasCandidates(0, 0, queues-1)
		p.hasCandidates(15, 1, backwards(upTo(0, queues))...)
	}
}

// R3: a list that is given to Map is not changed, and not what is behind it; and the steer does not see what is changed in it afterwards.
func TestListIsNotKept(t *testing.T) {
	for n := range 6 {
		p := newPair(t, made(8, 0, 4, 4, 4), 0, someFlows...)
		whole := []int{2, 5, 3, 7, 1, 6, 77, 78}
		given := whole[:n]
		if e := p.s.Map(4, given); e != api.OK {
			t.Fatalf("Map(4, %v) = %d", given, e)
		}
		p.m.lists[4] = slices.Clone(given)
		if !slices.Equal(whole, []int{2, 5, 3, 7, 1, 6, 77, 78}) {
			t.Errorf("Map changed the list or what is behind it: %v", whole)
		}
		p.look()
		for i := range whole {
			whole[i] = 0
		}
		p.look()
		spoiled := slices.Clone(whole)
		p.change(made(4, 0, 2, 2, 2)) // takes queues out of the list
		p.change(made(8, 0, 4, 4, 4))
		if !slices.Equal(whole, spoiled) {
			t.Errorf("Table changed the list that was given to Map: %v", whole)
		}
		if n == 0 && p.s.lists[4] != nil {
			t.Error("an empty list holds on to the caller's memory")
		}
	}
	for _, l := range wrongLists(8) { // those that are refused are not changed either
		before := slices.Clone(l)
		p := newPair(t, made(8, 0, 4, 4, 4), 0)
		if e := p.s.Map(0, l); e != api.ErrArg || !slices.Equal(l, before) {
			t.Errorf("Map(0, %v) = %d, and the list is %v", before, e, l)
		}
	}
}

// P9.1, Candidates: lists wholly, partly and not at all in the span of a priority, in and out of order.
func TestCandidates(t *testing.T) {
	for _, c := range []struct {
		list, first, second, third []int // the candidates of the priorities 0, 1 and 2
	}{
		{nil, []int{0, 1, 2}, []int{6, 7}, []int{4}},
		{[]int{0, 1, 2}, []int{0, 1, 2}, []int{6, 7}, []int{4}},
		{[]int{2, 0, 1}, []int{2, 0, 1}, []int{6, 7}, []int{4}},
		{[]int{1}, []int{1}, []int{6, 7}, []int{4}},
		{[]int{7, 2, 6, 0}, []int{2, 0}, []int{7, 6}, []int{4}},
		{[]int{3, 2, 5, 7, 8}, []int{2}, []int{7}, []int{4}}, // 3, 5 and 8 are in no span
		{[]int{3, 5, 8}, []int{0, 1, 2}, []int{6, 7}, []int{4}},
		{[]int{3}, []int{0, 1, 2}, []int{6, 7}, []int{4}},
		{[]int{4}, []int{0, 1, 2}, []int{6, 7}, []int{4}},
		{[]int{5, 6}, []int{0, 1, 2}, []int{6}, []int{4}}, // one below a span, and its first one
		{[]int{8, 7}, []int{0, 1, 2}, []int{7}, []int{4}}, // one beyond a span, and its last one
		{[]int{8, 7, 6, 5, 4, 3, 2, 1, 0}, []int{2, 1, 0}, []int{7, 6}, []int{4}},
	} {
		p := newPair(t, made(9, 0, 3, 6, 2, 4, 1), 1)
		for _, cpu := range []int{0, 1, 63} {
			p.mapTo(cpu, c.list...)
			p.look()
			p.hasCandidates(0, cpu, c.first...)
			p.hasCandidates(1, cpu, c.second...)
			p.hasCandidates(2, cpu, c.third...)
			p.hasCandidates(15, cpu, c.first...)
		}
	}
}

// P9.1, Candidates: of all valid tables, with lists of one and of 64 queues, of the table's last ones, and of all.
func TestCandidatesOfTables(t *testing.T) {
	for _, table := range validTables() {
		p := newPair(t, table, 1, someFlows...)
		p.mapTo(0, 0)
		p.mapTo(1, table.Queues-1)
		p.mapTo(2, upTo(0, table.Queues)...)
		p.mapTo(63, backwards(upTo(0, table.Queues))...)
		p.mapTo(5, upTo(table.Queues/2, table.Queues)...)
		p.look()
		p.refuses()
	}
	p := newPair(t, made(64, 0, 64), 1)
	p.hasCandidates(0, 0, upTo(0, 64)...)
	p.mapTo(0, backwards(upTo(0, 64))...)
	p.hasCandidates(15, 0, backwards(upTo(0, 64))...)
}

// R3: what Candidates answers is new memory, with what is behind it.
func TestCandidatesAreNew(t *testing.T) {
	p := newPair(t, made(64, 0, 32, 32, 32), 1, someFlows...)
	p.mapTo(1, 40, 3, 50, 2)
	for _, cpu := range []int{0, 1} {
		for prio := range 2 {
			a, _ := p.s.Candidates(prio, cpu)
			b, _ := p.s.Candidates(prio, cpu)
			kept := slices.Clone(b)
			for i := range a[:cap(a)] {
				a[:cap(a)][i] = 9
			}
			if !slices.Equal(b, kept) {
				t.Error("two answers share memory")
			}
			p.look()
			for _, f := range someFlows {
				p.choose(prio, cpu, f)
			}
			p.mapTo(1, 2, 50, 3, 40)
			p.change(made(64, 32, 32, 0, 32))
			if !slices.Equal(b, kept) {
				t.Error("an answer changed while the steer went on")
			}
			p.change(made(64, 0, 32, 32, 32))
			p.mapTo(1, 40, 3, 50, 2)
		}
	}
}

// P9.2, Choose: worked hashes, scaled to 1, 2, 3, 4, 8, 16 and 64 candidates, by the salts 0, 5 and the greatest one.
func TestPreferred(t *testing.T) {
	sizes := [7]int{1, 2, 3, 4, 8, 16, 64}
	for _, c := range []struct {
		f    api.Flow
		salt uint32
		want [7]int
	}{
		{api.Flow{}, 0, [7]int{0, 1, 1, 2, 4, 8, 32}},
		{api.Flow{}, 5, [7]int{0, 1, 2, 3, 6, 13, 54}},
		{api.Flow{}, math.MaxUint32, [7]int{0, 0, 0, 0, 0, 0, 3}},
		{api.Flow{From: 1, To: 2, Sport: 3, Dport: 4, Proto: 6}, 0, [7]int{0, 1, 1, 2, 4, 8, 33}},
		{api.Flow{From: 1, To: 2, Sport: 3, Dport: 4, Proto: 6}, 5, [7]int{0, 1, 1, 2, 4, 8, 35}},
		{api.Flow{From: 1, To: 2, Sport: 3, Dport: 4, Proto: 6}, math.MaxUint32, [7]int{0, 0, 0, 0, 1, 3, 14}},
		{api.Flow{From: 2, To: 1, Sport: 3, Dport: 4, Proto: 6}, 0, [7]int{0, 0, 1, 1, 3, 7, 30}},
		{api.Flow{From: 2, To: 1, Sport: 3, Dport: 4, Proto: 6}, 5, [7]int{0, 0, 0, 0, 1, 3, 12}},
		{api.Flow{From: 2, To: 1, Sport: 3, Dport: 4, Proto: 6}, math.MaxUint32, [7]int{0, 1, 2, 3, 6, 13, 54}},
		{api.Flow{From: 1, To: 2, Sport: 4, Dport: 3, Proto: 6}, 5, [7]int{0, 1, 2, 3, 6, 12, 48}},
		{api.Flow{From: 9}, 0, [7]int{0, 1, 2, 3, 7, 15, 62}},
		{api.Flow{From: 9}, 5, [7]int{0, 0, 1, 1, 2, 5, 23}},
		{api.Flow{From: math.MaxUint32, To: math.MaxUint32, Sport: 65535, Dport: 65535, Proto: 255}, 5, [7]int{0, 1, 2, 3, 6, 12, 48}},
		{api.Flow{From: 0x0a000001, To: 0xc0a80101, Sport: 443, Dport: 51234, Proto: 6}, math.MaxUint32, [7]int{0, 0, 0, 1, 2, 5, 20}},
	} {
		for i, n := range sizes {
			p := newPair(t, made(64, 64-n, n), c.salt, c.f)
			p.chooses(64-n+c.want[i], 15, 63, c.f) // of the span, which begins further on
			list := backwards(upTo(0, n))
			p = newPair(t, made(64, 0, 64), c.salt, c.f)
			p.mapTo(0, list...)
			p.chooses(list[c.want[i]], 0, 0, c.f) // of the list, which falls
			p.hasOut(c.f, list[c.want[i]], 1)
		}
	}
}

// P9.2, Choose: every candidate is the preferred one of some flow, and each one's as the model tells; of lists and of spans.
func TestPreferredOfMany(t *testing.T) {
	flows := manyFlows(2000)
	for _, list := range [][]int{nil, {2, 5, 3, 60, 31}, backwards(upTo(0, 64)), {32}} {
		p := newPair(t, made(64, 0, 32, 32, 32), 8)
		p.mapTo(0, list...)
		for prio := range 2 {
			seen := map[int]bool{}
			for _, f := range flows {
				seen[p.choose(prio, 0, f)] = true
				p.isDone(f, 1)
			}
			if l, _ := p.s.Candidates(prio, 0); len(seen) != len(l) {
				t.Errorf("%d of the candidates %v are chosen", len(seen), l)
			}
		}
	}
}

// P9.2, Choose: a flow's queue stays as long as packets of it are out, whatever is mapped, and for every processor; when all are done, it chooses again, of the list that there is then.
func TestStays(t *testing.T) {
	for _, f := range someFlows {
		p := newPair(t, made(8, 0, 4, 4, 4), 5, someFlows...)
		p.mapTo(1, 2, 5, 3)
		p.hasOut(f, -1, 0)
		p.chooses(5, 1, 1, f)
		p.hasOut(f, 5, 1)
		p.mapTo(1, 6)
		p.mapTo(2, 7)
		p.chooses(5, 1, 1, f)
		p.chooses(5, 1, 2, f)
		p.chooses(5, 15, 63, f)
		p.hasOut(f, 5, 4)
		p.isDone(f, 3)
		p.hasOut(f, 5, 1)
		p.chooses(5, 1, 2, f)
		p.isDone(f, 2)
		p.hasOut(f, 5, 0)
		p.look()
		p.refuses()
		p.chooses(7, 1, 2, f)
		p.hasOut(f, 7, 1)
		p.chooses(7, 1, 1, f)
		p.isDone(f, 2)
		p.chooses(6, 1, 1, f)
		p.hasOut(f, 6, 1)
		p.refuses()
	}
}

// P9.2, Choose: many packets of a flow out.
func TestManyOut(t *testing.T) {
	f := someFlows[2]
	p := newPair(t, made(8, 0, 8), 5, f)
	p.mapTo(0, 3)
	const many = 70000
	for range many {
		p.chooses(3, 0, 0, f)
	}
	p.mapTo(0, 4)
	p.hasOut(f, 3, many)
	p.isDone(f, many-1)
	p.chooses(3, 0, 0, f)
	p.isDone(f, 2)
	p.hasOut(f, 3, 0)
	if e := p.done(f); e != api.ErrSteer {
		t.Errorf("Done = %d", e)
	}
	p.chooses(4, 0, 0, f)
}

// P9.2, Choose: a queue that is in the span of one priority and not in that of another: the preferred one of the other becomes the flow's, and those that are out count on.
func TestOtherPriority(t *testing.T) {
	for _, f := range someFlows {
		p := newPair(t, made(8, 0, 4, 4, 4), 5, someFlows...)
		p.mapTo(0, 1, 6)
		p.mapTo(63, 7, 2)
		p.chooses(1, 0, 0, f)
		p.chooses(1, 14, 63, f) // of the same class
		p.chooses(7, 1, 63, f)
		p.hasOut(f, 7, 3)
		p.chooses(7, 15, 0, f)
		p.chooses(2, 0, 63, f)
		p.hasOut(f, 2, 5)
		p.isDone(f, 4)
		p.chooses(2, 0, 0, f)
		p.isDone(f, 2)
		p.hasOut(f, 2, 0)
		p.refuses()
		p.chooses(1, 0, 0, f)
		p.hasOut(f, 1, 1)
	}
}

// P9.2, Choose: at the edges of a span: a flow's queue that is its first or its last one stays, one that is one beyond does not.
func TestEdgesOfSpan(t *testing.T) {
	f := someFlows[1]
	for _, c := range []struct{ from, want int }{{2, 4}, {3, 3}, {5, 5}, {6, 4}} {
		p := newPair(t, made(8, 0, 8), 5, f)
		p.mapTo(0, c.from)
		p.chooses(c.from, 0, 0, f)
		p.mapTo(0, 4)
		p.change(made(8, 3, 3)) // 3 to 5
		p.chooses(c.want, 0, 0, f)
		p.hasOut(f, c.want, 2)
	}
}

// P9.2: flows of other hashes have their queues and their counts apart.
func TestFlowsApart(t *testing.T) {
	p := newPair(t, made(8, 0, 4, 4, 4), 5, someFlows...)
	a, b := someFlows[0], someFlows[2]
	p.mapTo(0, 3)
	p.mapTo(1, 2)
	p.chooses(3, 0, 0, a)
	p.hasOut(b, -1, 0)
	if e := p.done(b); e != api.ErrSteer {
		t.Errorf("Done of a flow that never had a queue = %d", e)
	}
	p.hasOut(b, -1, 0)
	p.chooses(2, 0, 1, b)
	p.chooses(3, 0, 1, a)
	p.hasOut(a, 3, 2)
	p.hasOut(b, 2, 1)
	p.isDone(b, 1)
	if e := p.done(b); e != api.ErrSteer {
		t.Errorf("Done of a flow whose packets are all done = %d", e)
	}
	p.hasOut(a, 3, 2)
	p.chooses(3, 0, 0, b)
	p.look()
	p.refuses()
	for i, f := range someFlows { // each field tells: ten flows, ten counts
		p := newPair(t, made(8, 0, 4, 4, 4), 5, someFlows...)
		p.choose(0, 0, f)
		for j, g := range someFlows {
			if _, n := p.s.Out(g); n == 1 != (i == j) {
				t.Errorf("Out(%v) after Choose of %v: %d", g, f, n)
			}
		}
		p.look()
	}
}

// P9.2: flows of one hash are as one: they share the queue and the count; with another salt they are apart.
func TestFlowsOfOneHash(t *testing.T) {
	for _, salt := range []uint32{0, 5, 1 << 31, math.MaxUint32} {
		for _, f := range someFlows {
			g := twin(f, salt)
			if g == f || hashedByHand(g, salt) != hashedByHand(f, salt) {
				t.Fatalf("%v is no twin of %v", g, f)
			}
			p := newPair(t, made(8, 0, 4, 4, 4), salt, f, g)
			p.mapTo(0, 3)
			p.mapTo(1, 2)
			p.chooses(3, 0, 0, f)
			p.hasOut(g, 3, 1)
			p.chooses(3, 0, 1, g)
			p.hasOut(f, 3, 2)
			p.isDone(f, 2)
			if e := p.done(g); e != api.ErrSteer {
				t.Errorf("Done = %d", e)
			}
			p.chooses(2, 0, 1, g)
			p.hasOut(f, 2, 1)
			p = newPair(t, made(8, 0, 4, 4, 4), salt^0x5bd1e995, f, g)
			p.choose(0, 0, f)
			p.hasOut(g, -1, 0)
		}
	}
}

// P9.2: a packet's number and bytes tell nothing.
func TestIdAndLen(t *testing.T) {
	s, _ := New(made(64, 0, 64), 5)
	want, _ := s.Choose(api.Packet{})
	for _, n := range []uint32{1, 60, 65535, 65536, math.MaxUint32} {
		s, _ := New(made(64, 0, 64), 5)
		for _, p := range []api.Packet{{Id: n}, {Len: n}, {Id: n, Len: n}} {
			if q, e := s.Choose(p); q != want || e != api.OK {
				t.Errorf("Choose(%v) = %d, %d, want %d", p, q, e, want)
			}
		}
		if q, out := s.Out(api.Flow{}); q != want || out != 3 {
			t.Errorf("Out = %d, %d", q, out)
		}
	}
}

// P9.2, Done: of a flow that never had a queue, of one whose packets are all done, and again and again.
func TestDone(t *testing.T) {
	p := newPair(t, made(8, 0, 4, 4, 4), 5, someFlows...)
	for _, f := range someFlows {
		for range 3 {
			if e := p.done(f); e != api.ErrSteer {
				t.Errorf("Done(%v) = %d", f, e)
			}
			p.hasOut(f, -1, 0)
		}
		queue := p.choose(0, 0, f)
		p.isDone(f, 1)
		for range 3 {
			if e := p.done(f); e != api.ErrSteer {
				t.Errorf("Done(%v) = %d", f, e)
			}
			p.hasOut(f, queue, 0)
		}
		p.chooses(queue, 0, 0, f)
		p.hasOut(f, queue, 1)
		p.isDone(f, 1)
	}
	p.look()
}

// P9.2, Table: fewer queues: those that are gone are taken out of the lists of all processors, and do not come back with a greater table; the others keep their order.
func TestFewerQueues(t *testing.T) {
	p := newPair(t, made(8, 0, 4, 4, 4), 5, someFlows...)
	for cpu := range 64 {
		p.mapTo(cpu, 7, 2, 3, 5, 0)
	}
	p.mapTo(3)
	p.mapTo(4, 7, 6, 3)
	p.mapTo(5, 0, 1, 2)
	p.change(made(3, 0, 3))
	for _, cpu := range []int{0, 1, 62, 63} {
		p.hasCandidates(0, cpu, 2, 0)
	}
	p.hasCandidates(1, 3, 0, 1, 2)
	p.hasCandidates(1, 4, 0, 1, 2)
	p.hasCandidates(1, 5, 0, 1, 2)
	p.refuses()
	p.change(made(8, 0, 8))
	p.hasCandidates(0, 0, 2, 0)
	p.hasCandidates(0, 4, upTo(0, 8)...)
	p.change(made(64, 0, 8, 8, 56))
	p.hasCandidates(0, 63, 2, 0)
	p.hasCandidates(1, 63, upTo(8, 64)...)
	p.mapTo(63, 63)
	p.hasCandidates(1, 63, 63)
	p.change(made(63, 0, 8, 8, 55))
	p.hasCandidates(1, 63, upTo(8, 63)...)
	p.change(made(1, 0, 1))
	p.hasCandidates(15, 0, 0)
	p.refuses()
}

// P9.2, Table: of as many queues and other spans: the lists stay whole, also where their queues are in no span.
func TestOtherSpans(t *testing.T) {
	p := newPair(t, made(8, 0, 4, 4, 4), 5, someFlows...)
	p.mapTo(1, 7, 2, 3, 5, 0)
	p.change(made(8, 1, 2))
	p.hasCandidates(0, 1, 2)
	p.change(made(8, 6, 1))
	p.hasCandidates(0, 1, 6)
	p.change(made(8, 4, 4, 0, 4))
	p.hasCandidates(0, 1, 7, 5)
	p.hasCandidates(1, 1, 2, 3, 0)
	p.change(made(8, 0, 8))
	p.hasCandidates(0, 1, 7, 2, 3, 5, 0)
	p.change(withClasses(made(8, 0, 4, 4, 4), 1, 1, 1, 1, 1, 1, 1, 1, 1, 1, 1, 1, 1, 1, 1, 0))
	p.hasCandidates(0, 1, 7, 5)
	p.hasCandidates(15, 1, 2, 3, 0)
}

// P9.2, Table: while packets of a flow are out, the flow keeps its queue and its count; it is chosen as long as the span has it, also when it came back.
func TestTableWhileOut(t *testing.T) {
	for _, f := range someFlows {
		p := newPair(t, made(8, 0, 4, 4, 4), 5, someFlows...)
		p.mapTo(1, 6, 2)
		p.chooses(6, 1, 1, f)
		p.chooses(6, 1, 1, f)
		p.change(made(3, 0, 3)) // 6 is gone
		p.hasOut(f, 6, 2)
		p.change(made(8, 0, 4, 4, 4)) // 6 is back, though no list has it
		p.hasOut(f, 6, 2)
		p.chooses(6, 1, 1, f)
		p.chooses(2, 0, 1, f)
		p.hasOut(f, 2, 4)
		p.change(made(3, 0, 3))
		p.chooses(2, 1, 0, f)
		p.change(made(64, 2, 62))
		p.chooses(2, 1, 0, f)
		p.change(made(3, 0, 2))
		p.mapTo(1, 1)
		p.chooses(1, 9, 1, f)
		p.hasOut(f, 1, 7)
		p.isDone(f, 7)
		p.refuses()
		p.change(made(3, 2, 1))
		p.hasOut(f, 1, 0)
		p.chooses(2, 0, 0, f)
		p.change(made(1, 0, 1))
		p.hasOut(f, 2, 1)
		p.chooses(0, 0, 0, f)
		p.isDone(f, 2)
		p.hasOut(f, 0, 0)
	}
}

// P9.2, Table: one that is not valid leaves the table, the lists and the flows as they were.
func TestTableWrong(t *testing.T) {
	p := newPair(t, made(8, 0, 4, 4, 4), 5, someFlows...)
	p.mapTo(0, 7, 1)
	p.chooses(7, 1, 0, someFlows[3])
	p.chooses(1, 0, 0, someFlows[4])
	for name, table := range invalidTables() {
		before := copied(table)
		if e := p.s.Table(table); e != api.ErrTable {
			t.Errorf("Table of %s = %d", name, e)
		}
		if !equal(table, before) {
			t.Errorf("Table changed %s", name)
		}
		p.look()
		p.mapTo(0, 7, 1)
	}
	p.refuses()
}

// R4: steers share nothing.
func TestTwoSteers(t *testing.T) {
	table := made(8, 0, 4, 4, 4)
	a, b := newPair(t, table, 5, someFlows...), newPair(t, table, 5, someFlows...)
	list := []int{2, 5, 3}
	a.s.Map(0, list)
	a.m.lists[0] = list
	b.look()
	b.s.Map(0, list)
	b.m.lists[0] = list
	a.chooses(5, 1, 0, someFlows[0])
	b.look()
	b.change(made(3, 0, 3))
	a.look()
	b.choose(1, 0, someFlows[0])
	a.isDone(someFlows[0], 1)
	b.look()
}

// randomTable is a valid one: spans of what lies between some cuts, some of them, in some order.
func randomTable(r *rand.Rand, queues int) api.Table {
	cuts := r.Perm(queues + 1)[:min(queues+1, 2+r.Intn(6))]
	slices.Sort(cuts)
	t := api.Table{Queues: queues}
	for i := range len(cuts) - 1 {
		if len(t.Spans) == 0 || r.Intn(4) > 0 {
			t.Spans = append(t.Spans, api.Span{Off: cuts[i], Cnt: cuts[i+1] - cuts[i]})
		}
	}
	r.Shuffle(len(t.Spans), func(i, j int) { t.Spans[i], t.Spans[j] = t.Spans[j], t.Spans[i] })
	for range 16 {
		t.Class = append(t.Class, r.Intn(len(t.Spans)))
	}
	return t
}

// P9.1 to P9.3: many operations in a mixed order, from fixed seeds, held against the model, with wrong ones among them.
func TestMany(t *testing.T) {
	r := rand.New(rand.NewSource(91))
	for round := range 40 {
		queues := []int{1, 2, 3, 8, 64}[round%5]
		salt := r.Uint32()
		flows := append(manyFlows(5), twin(manyFlows(1)[0], salt))
		p := newPair(t, randomTable(r, queues), salt, flows...)
		for range 400 {
			f := flows[r.Intn(len(flows))]
			switch r.Intn(16) {
			case 0:
				p.change(randomTable(r, 1+r.Intn(queues)))
			case 1:
				p.change(randomTable(r, queues))
			case 2, 3:
				n := p.m.table.Queues
				p.mapTo(r.Intn(3), r.Perm(n)[:r.Intn(n+1)]...)
			case 4, 5, 6, 7, 8:
				p.done(f)
			default:
				p.choose(r.Intn(16), r.Intn(4), f)
			}
			p.lookAtFlows()
		}
		p.look()
		p.refuses()
	}
}

// P9.3: a chosen queue is in the span of the priority; and as long as packets of a flow are out, and its queue is in the span, that queue is chosen, however lists and tables change.
func TestProperties(t *testing.T) {
	r := rand.New(rand.NewSource(92))
	stayed, moved := 0, 0
	for round := range 60 {
		queues := []int{2, 5, 16, 64}[round%4]
		table := randomTable(r, queues)
		s, _ := New(table, r.Uint32())
		flows := manyFlows(4)
		last, out := [4]int{}, [4]int{}
		for range 500 {
			i := r.Intn(4)
			switch r.Intn(10) {
			case 0:
				table = randomTable(r, queues)
				s.Table(table)
			case 1:
				s.Map(r.Intn(64), r.Perm(queues)[:r.Intn(queues+1)])
			case 2, 3, 4:
				if s.Done(flows[i]) == api.OK {
					out[i]--
				}
			default:
				prio := r.Intn(16)
				q, e := s.Choose(api.Packet{Prio: prio, Cpu: r.Intn(64), Flow: flows[i]})
				span := table.Spans[table.Class[prio]]
				in := func(queue int) bool { return span.Off <= queue && queue < span.Off+span.Cnt }
				if e != api.OK || !in(q) {
					t.Fatalf("Choose = %d, %d, not in %v", q, e, span)
				}
				if out[i] > 0 && in(last[i]) && q != last[i] {
					t.Fatalf("Choose = %d, though %d packets are out at %d, which is in %v", q, out[i], last[i], span)
				}
				if out[i] > 0 && q == last[i] {
					stayed++
				} else {
					moved++
				}
				last[i] = q
				out[i]++
			}
			if q, n := s.Out(flows[i]); n != out[i] || n > 0 && q != last[i] {
				t.Fatalf("Out = %d, %d, want %d, %d", q, n, last[i], out[i])
			}
		}
	}
	if stayed < 1000 || moved < 1000 {
		t.Errorf("%d stayed, %d moved: too few to tell", stayed, moved)
	}
}

// The visit of candidates can be left early and gone through again, in the list and in the span.
func TestVisit(t *testing.T) {
	p := newPair(t, made(8, 0, 4, 4, 4), 5)
	p.mapTo(1, 7, 2, 5, 3)
	for _, c := range []struct {
		prio, cpu int
		want      []int
	}{{0, 1, []int{2, 3}}, {1, 1, []int{7, 5}}, {0, 0, []int{0, 1, 2, 3}}, {1, 0, []int{4, 5, 6, 7}}} {
		visit := p.s.candidates(c.prio, c.cpu)
		for left := range len(c.want) + 1 {
			var got []int
			for i, queue := range visit {
				if len(got) == left {
					break
				}
				if i != len(got) {
					t.Errorf("the index of %d is %d", queue, i)
				}
				got = append(got, queue)
			}
			if !slices.Equal(got, c.want[:left]) {
				t.Errorf("left after %d: %v", left, got)
			}
		}
	}
}
