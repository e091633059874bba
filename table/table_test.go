package table

import (
	"fmt"
	"math"
	"math/rand"
	"slices"
	"testing"

	"waymaster/api"
)

// farInts are numbers far from any queue, class or priority, and such whose lower bits alone would be one.
var farInts = []int{math.MinInt, math.MinInt + 1, math.MinInt32, -1 << 32, 1<<32 + 1, 1 << 32, 1<<16 + 1, 256, 257, math.MaxInt32, math.MaxInt - 1, math.MaxInt}

// around are all numbers from one to another, and the far ones.
func around(from, to int) []int {
	l := slices.Clone(farInts)
	for n := from; n <= to; n++ {
		l = append(l, n)
	}
	return l
}

// classes are the classes of the priorities, of n spans, one after the other.
func classes(n int) []int {
	l := make([]int, 16)
	for prio := range l {
		l[prio] = prio % n
	}
	return l
}

// made is a table of spans that are each told by two numbers.
func made(queues int, numbers ...int) api.Table {
	t := api.Table{Queues: queues}
	for i := 0; i < len(numbers); i += 2 {
		t.Spans = append(t.Spans, api.Span{Off: numbers[i], Cnt: numbers[i+1]})
	}
	t.Class = classes(max(1, len(t.Spans)))
	return t
}

// copied is a table that shares nothing with another one.
func copied(t api.Table) api.Table {
	return api.Table{Queues: t.Queues, Class: slices.Clone(t.Class), Spans: slices.Clone(t.Spans)}
}

// withClass is a table with another class of one priority.
func withClass(t api.Table, prio, class int) api.Table {
	t = copied(t)
	t.Class[prio] = class
	return t
}

// withSpan is a table with another span of one class.
func withSpan(t api.Table, class int, s api.Span) api.Table {
	t = copied(t)
	t.Spans[class] = s
	return t
}

// equal tells whether two tables are the same.
func equal(a, b api.Table) bool {
	return a.Queues == b.Queues && slices.Equal(a.Class, b.Class) && slices.Equal(a.Spans, b.Spans)
}

// singles are one span of each of n queues.
func singles(n int) api.Table {
	var numbers []int
	for i := range n {
		numbers = append(numbers, i, 1)
	}
	return made(n, numbers...)
}

// validTables are valid, by name.
func validTables() map[string]api.Table {
	backwards := singles(16)
	slices.Reverse(backwards.Spans)
	scattered := made(64, 63, 1, 0, 1, 31, 2, 40, 3)
	scattered.Class = []int{3, 3, 3, 3, 0, 0, 0, 0, 1, 1, 2, 2, 2, 3, 0, 1}
	oneOfMany := made(5, 0, 2, 3, 2)
	oneOfMany.Class = make([]int, 16)
	return map[string]api.Table{
		"one queue":                      made(1, 0, 1),
		"64 queues in one span":          made(64, 0, 64),
		"the last one of 64":             made(64, 63, 1),
		"the first one of 64":            made(64, 0, 1),
		"all but the first":              made(64, 1, 63),
		"all but the last":               made(64, 0, 63),
		"16 spans":                       singles(16),
		"16 spans, the last ones first":  backwards,
		"16 spans of 64":                 made(64, 0, 4, 4, 4, 8, 4, 12, 4, 16, 4, 20, 4, 24, 4, 28, 4, 32, 4, 36, 4, 40, 4, 44, 4, 48, 4, 52, 4, 56, 4, 60, 4),
		"without gaps":                   made(7, 0, 3, 3, 1, 4, 3),
		"without gaps, not in order":     made(7, 4, 3, 0, 3, 3, 1),
		"a gap at the start":             made(5, 1, 2, 3, 2),
		"a gap in the middle":            made(5, 0, 2, 3, 2),
		"a gap at the end":               made(5, 0, 2, 2, 2),
		"gaps everywhere":                made(9, 1, 1, 4, 2, 7, 1),
		"spans with no priority":         oneOfMany,
		"spans here and there, 64":       scattered,
		"two spans that meet, the other": made(4, 2, 2, 0, 2),
	}
}

// invalidTables are not valid, by what is wrong with them.
func invalidTables() map[string]api.Table {
	m := map[string]api.Table{
		"nothing":                           {},
		"no span":                           {Queues: 4, Class: make([]int, 16)},
		"no span, not nil":                  {Queues: 4, Class: make([]int, 16), Spans: []api.Span{}},
		"17 spans":                          singles(17),
		"64 spans":                          singles(64),
		"an Off of -1":                      made(4, -1, 2),
		"an Off of -1, of no more queues":   made(4, -1, 1),
		"an Off of -1, second":              made(4, 0, 1, -1, 2),
		"a Cnt of 0":                        made(4, 0, 0),
		"a Cnt of 0 at the end":             made(4, 0, 4, 4, 0),
		"a Cnt of 0 between":                made(4, 0, 2, 2, 0, 2, 2),
		"a Cnt of -1":                       made(4, 2, -1),
		"a Cnt of -1, second":               made(4, 0, 1, 3, -1),
		"one queue too many":                made(4, 0, 5),
		"one queue too many, further":       made(4, 2, 3),
		"one queue too many, second":        made(4, 0, 2, 2, 3),
		"65 of 64":                          made(64, 0, 65),
		"beyond the last queue":             made(4, 4, 1),
		"beyond the last of 64":             made(64, 64, 1),
		"a sum that wraps around":           made(4, 1, math.MaxInt),
		"a sum that wraps around to 4":      made(4, math.MaxInt, math.MinInt+5),
		"a sum that wraps around, from Off": made(64, math.MaxInt, 1),
		"a sum of the two greatest":         made(64, math.MaxInt, math.MaxInt),
		"a sum of the two least, that is 0": made(64, math.MinInt, math.MinInt),
		"a sum of -1 and the greatest":      made(64, -1, math.MaxInt),
		"a sum of least and greatest":       made(64, math.MinInt, math.MaxInt),
		"a sum of 1, of Off below 0":        made(64, -62, 63),
		"the greatest Cnt":                  made(64, 0, math.MaxInt),
		"the least Cnt":                     made(64, 0, math.MinInt),
		"the greatest Off":                  made(64, math.MaxInt, 2),
		"the least Off":                     made(64, math.MinInt, 2),
		"one span twice":                    made(4, 0, 2, 0, 2),
		"the last queue of one, first of 2": made(4, 0, 3, 2, 2),
		"the same, the other way about":     made(4, 2, 2, 0, 3),
		"one span within another":           made(8, 0, 8, 3, 1),
		"one span around another":           made(8, 3, 1, 0, 8),
		"the first and the last one meet":   made(8, 0, 2, 2, 2, 4, 2, 1, 1),
		"all queues of 64, twice":           made(64, 0, 64, 0, 64),
		"one queue twice":                   made(1, 0, 1, 0, 1),
	}
	for _, queues := range around(-2, 0) {
		m[fmt.Sprint("Queues ", queues)] = made(queues, 0, 1)
	}
	for _, queues := range []int{65, 66, 127, 128} {
		m[fmt.Sprint("Queues ", queues)] = made(queues, 0, 1)
	}
	for _, n := range []int{0, 1, 15, 17, 32} {
		t := made(4, 0, 4)
		t.Class = make([]int, n)
		m[fmt.Sprint(n, " classes")] = t
	}
	for _, class := range append([]int{-1, -2, 2, 3, 4, 16}, farInts...) {
		for _, prio := range []int{0, 7, 15} {
			m[fmt.Sprint("class ", class, " of priority ", prio)] = withClass(made(4, 0, 2, 2, 2), prio, class)
		}
	}
	m["class 1 of one span"] = withClass(made(4, 0, 4), 15, 1)
	m["class 16 of 16 spans"] = withClass(singles(16), 0, 16)
	return m
}

// rightByHand is the document's word 'valid', in numbers without bounds as far as spans reach, each queue counted.
func rightByHand(t api.Table) bool {
	if t.Queues < 1 || t.Queues > 64 || len(t.Spans) < 1 || len(t.Spans) > 16 || len(t.Class) != 16 {
		return false
	}
	var times [64]int
	for _, s := range t.Spans {
		if s.Off < 0 || s.Cnt < 1 || s.Off > 64 || s.Cnt > 64 || s.Off+s.Cnt > t.Queues {
			return false
		}
		for queue := s.Off; queue < s.Off+s.Cnt; queue++ {
			times[queue]++
			if times[queue] > 1 {
				return false
			}
		}
	}
	for _, class := range t.Class {
		if class < 0 || class >= len(t.Spans) {
			return false
		}
	}
	return true
}

// ownerByHand is the class of a queue, each span asked.
func ownerByHand(t api.Table, queue int) int {
	for class, s := range t.Spans {
		if s.Off <= queue && queue <= s.Off+s.Cnt-1 {
			return class
		}
	}
	return -1
}

// check holds all that is promised of one table against what is reckoned by hand.
func check(t *testing.T, name string, x api.Table) {
	t.Helper()
	right := rightByHand(x)
	if Right(x) != right {
		t.Fatalf("%s: Right(%v) = %v", name, x, !right)
	}
	if !right {
		checkRefused(t, name, x)
		return
	}
	for prio := range 16 {
		class := x.Class[prio]
		if c, e := ClassOf(x, prio); c != class || e != api.OK {
			t.Fatalf("%s: ClassOf(%v, %d) = %d, %d", name, x, prio, c, e)
		}
		if s, e := SpanOf(x, prio); s != x.Spans[class] || e != api.OK {
			t.Fatalf("%s: SpanOf(%v, %d) = %v, %d", name, x, prio, s, e)
		}
	}
	var idle []int
	for queue := range x.Queues {
		want := ownerByHand(x, queue)
		if want == -1 {
			idle = append(idle, queue)
		}
		if c, e := Owner(x, queue); c != want || e != api.OK {
			t.Fatalf("%s: Owner(%v, %d) = %d, %d, want %d", name, x, queue, c, e, want)
		}
	}
	if l, e := Idle(x); !slices.Equal(l, idle) || e != api.OK {
		t.Fatalf("%s: Idle(%v) = %v, %d, want %v", name, x, l, e, idle)
	}
}

// checkRefused looks whether all functions refuse a table with ErrTable and a zero value, whatever else they are given.
func checkRefused(t *testing.T, name string, x api.Table) {
	t.Helper()
	for _, n := range around(-2, 18) {
		if c, e := ClassOf(x, n); c != 0 || e != api.ErrTable {
			t.Fatalf("%s: ClassOf(%v, %d) = %d, %d", name, x, n, c, e)
		}
		if s, e := SpanOf(x, n); s != (api.Span{}) || e != api.ErrTable {
			t.Fatalf("%s: SpanOf(%v, %d) = %v, %d", name, x, n, s, e)
		}
		if c, e := Owner(x, n); c != 0 || e != api.ErrTable {
			t.Fatalf("%s: Owner(%v, %d) = %d, %d", name, x, n, c, e)
		}
	}
	if l, e := Idle(x); len(l) != 0 || e != api.ErrTable {
		t.Fatalf("%s: Idle(%v) = %v, %d", name, x, l, e)
	}
	right := made(4, 0, 4)
	for _, pair := range [][2]api.Table{{x, right}, {right, x}, {x, x}} {
		if l, e := Moved(pair[0], pair[1]); len(l) != 0 || e != api.ErrTable {
			t.Fatalf("%s: Moved(%v, %v) = %v, %d", name, pair[0], pair[1], l, e)
		}
	}
}

// The document's examples.
func TestExamples(t *testing.T) {
	x := made(5, 0, 2, 3, 2)
	if l, e := Idle(x); !slices.Equal(l, []int{2}) || e != api.OK {
		t.Errorf("Idle = %v, %d", l, e)
	}
	if c, e := Owner(x, 2); c != -1 || e != api.OK {
		t.Errorf("Owner of queue 2 = %d, %d", c, e)
	}
	y, e := Even(5, 2)
	if !equal(y, made(5, 0, 3, 3, 2)) || e != api.OK {
		t.Errorf("Even(5, 2) = %v, %d", y, e)
	}
}

// P8.1, Right: tables that are valid, and all that is told of them.
func TestRight(t *testing.T) {
	for name, x := range validTables() {
		if !rightByHand(x) {
			t.Fatalf("%s: not valid by hand", name)
		}
		check(t, name, x)
	}
}

// P8.1, Right: tables that are not, and all functions that refuse them.
func TestNotRight(t *testing.T) {
	for name, x := range invalidTables() {
		if rightByHand(x) {
			t.Fatalf("%s: valid by hand", name)
		}
		check(t, name, x)
	}
}

// P8.1, Right: every number of queues from -3 to 130, with a first queue, with the last one, and with all.
func TestEveryQueues(t *testing.T) {
	for queues := -3; queues <= 130; queues++ {
		for _, x := range []api.Table{made(queues, 0, 1), made(queues, queues-1, 1), made(queues, 0, queues)} {
			check(t, "every Queues", x)
			if want := queues >= 1 && queues <= 64; Right(x) != want {
				t.Errorf("Right(%v) = %v", x, !want)
			}
		}
	}
}

// P8.1, Right: every number of spans from 0 to 20, and every number of classes.
func TestEveryLength(t *testing.T) {
	for n := range 21 {
		x := singles(n)
		x.Queues = 20
		check(t, "every number of spans", x)
		if want := n >= 1 && n <= 16; Right(x) != want {
			t.Errorf("%d spans: Right = %v", n, !want)
		}
	}
	for n := range 40 {
		x := singles(2)
		x.Class = make([]int, n)
		check(t, "every number of classes", x)
		if want := n == 16; Right(x) != want {
			t.Errorf("%d classes: Right = %v", n, !want)
		}
	}
}

// P8.1 and P8.3: all tables of up to 4 queues with one span or two whose numbers are near to those, and with two spans three.
func TestAllSmallTables(t *testing.T) {
	for queues := 1; queues <= 4; queues++ {
		for off := -1; off <= 5; off++ {
			for cnt := -1; cnt <= 5; cnt++ {
				check(t, "one span", made(queues, off, cnt))
				for second := -1; second <= 5; second++ {
					for many := -1; many <= 5; many++ {
						check(t, "two spans", made(queues, off, cnt, second, many))
						check(t, "three spans", made(queues, off, cnt, second, many, 0, 1))
					}
				}
			}
		}
	}
}

// P8.1, Right: every pair of spans within 64 queues, from some offsets: all that overlap are refused.
func TestOverlaps(t *testing.T) {
	for off := range 64 {
		for _, cnt := range []int{1, 2, 63 - off, 64 - off} {
			for second := range 64 {
				for _, many := range []int{1, 2, 31, 63 - second, 64 - second} {
					x := made(64, off, cnt, second, many)
					if want := rightByHand(x); Right(x) != want {
						t.Fatalf("Right(%v) = %v", x, !want)
					}
				}
			}
		}
	}
}

// P8.1, Right: a table is judged again when it was changed in place, since nothing is kept of it.
func TestJudgedAgain(t *testing.T) {
	x := made(4, 0, 2, 2, 2)
	for range 2 {
		if !Right(x) {
			t.Error("not valid at first")
		}
		x.Spans[1].Off = 1
		if _, e := Idle(x); Right(x) || e != api.ErrTable {
			t.Error("valid with a queue in two spans")
		}
		x.Spans[1] = api.Span{Off: 3, Cnt: 1}
		if l, e := Idle(x); !slices.Equal(l, []int{2}) || e != api.OK {
			t.Errorf("Idle = %v, %d", l, e)
		}
		x.Spans[1] = api.Span{Off: 2, Cnt: 2}
	}
}

// P8.1, ClassOf and SpanOf: worked values at the priorities 0 and 15 and between.
func TestClassOfAndSpanOf(t *testing.T) {
	x := made(9, 6, 3, 0, 1, 2, 2)
	x.Class = []int{2, 0, 1, 1, 0, 0, 2, 2, 2, 1, 0, 1, 2, 0, 0, 1}
	for _, c := range []struct {
		prio, class int
		span        api.Span
	}{
		{0, 2, api.Span{Off: 2, Cnt: 2}}, {1, 0, api.Span{Off: 6, Cnt: 3}}, {2, 1, api.Span{Off: 0, Cnt: 1}},
		{8, 2, api.Span{Off: 2, Cnt: 2}}, {14, 0, api.Span{Off: 6, Cnt: 3}}, {15, 1, api.Span{Off: 0, Cnt: 1}},
	} {
		if class, e := ClassOf(x, c.prio); class != c.class || e != api.OK {
			t.Errorf("ClassOf(%d) = %d, %d, want %d", c.prio, class, e, c.class)
		}
		if s, e := SpanOf(x, c.prio); s != c.span || e != api.OK {
			t.Errorf("SpanOf(%d) = %v, %d, want %v", c.prio, s, e, c.span)
		}
	}
}

// P8.1: of a valid table, a priority out of 0..15 and a queue out of 0..Queues-1 are ErrArg, with a zero value beside it.
func TestWrongNumbers(t *testing.T) {
	for name, x := range validTables() {
		for _, prio := range append([]int{-1, -2, -16, 16, 17, 31, 32, 64}, farInts...) {
			if c, e := ClassOf(x, prio); c != 0 || e != api.ErrArg {
				t.Errorf("%s: ClassOf(%d) = %d, %d", name, prio, c, e)
			}
			if s, e := SpanOf(x, prio); s != (api.Span{}) || e != api.ErrArg {
				t.Errorf("%s: SpanOf(%d) = %v, %d", name, prio, s, e)
			}
		}
		for _, queue := range append([]int{-1, -2, -64, x.Queues, x.Queues + 1, x.Queues + 64, 64, 65, 128}, farInts...) {
			if c, e := Owner(x, queue); c != 0 || e != api.ErrArg {
				t.Errorf("%s: Owner(%d) = %d, %d", name, queue, c, e)
			}
		}
	}
}

// P8.1, Owner and Idle: worked values, with queues 0 and Queues-1 in a class and in none.
func TestOwnerAndIdle(t *testing.T) {
	for _, c := range []struct {
		table  api.Table
		owners []int
		idle   []int
	}{
		{made(1, 0, 1), []int{0}, nil},
		{made(3, 0, 3), []int{0, 0, 0}, nil},
		{made(3, 0, 1), []int{0, -1, -1}, []int{1, 2}},
		{made(3, 1, 1), []int{-1, 0, -1}, []int{0, 2}},
		{made(3, 2, 1), []int{-1, -1, 0}, []int{0, 1}},
		{made(4, 2, 2, 0, 2), []int{1, 1, 0, 0}, nil},
		{made(6, 4, 1, 1, 2), []int{-1, 1, 1, -1, 0, -1}, []int{0, 3, 5}},
		{made(6, 5, 1, 0, 1, 2, 2), []int{1, -1, 2, 2, -1, 0}, []int{1, 4}},
	} {
		for queue, want := range c.owners {
			if class, e := Owner(c.table, queue); class != want || e != api.OK {
				t.Errorf("Owner(%v, %d) = %d, %d, want %d", c.table, queue, class, e, want)
			}
		}
		if l, e := Idle(c.table); !slices.Equal(l, c.idle) || e != api.OK {
			t.Errorf("Idle(%v) = %v, %d, want %v", c.table, l, e, c.idle)
		}
	}
}

// P8.1, Owner and Idle: one class of 64 queues that has one of them, each in turn; all others are idle.
func TestOneQueueOf64(t *testing.T) {
	for only := range 64 {
		x := made(64, only, 1)
		var want []int
		for queue := range 64 {
			class := -1
			if queue == only {
				class = 0
			} else {
				want = append(want, queue)
			}
			if c, e := Owner(x, queue); c != class || e != api.OK {
				t.Fatalf("Owner(%v, %d) = %d, %d", x, queue, c, e)
			}
		}
		if l, e := Idle(x); !slices.Equal(l, want) || e != api.OK {
			t.Fatalf("Idle(%v) = %v, %d", x, l, e)
		}
	}
}

// P8.2, Even: worked tables: as many classes as queues, one class, with a remainder and without one.
func TestEven(t *testing.T) {
	for _, c := range []struct {
		queues, classes int
		want            api.Table
	}{
		{1, 1, made(1, 0, 1)},
		{64, 1, made(64, 0, 64)},
		{5, 2, made(5, 0, 3, 3, 2)},
		{5, 3, made(5, 0, 2, 2, 2, 4, 1)},
		{5, 4, made(5, 0, 2, 2, 1, 3, 1, 4, 1)},
		{5, 5, made(5, 0, 1, 1, 1, 2, 1, 3, 1, 4, 1)},
		{8, 2, made(8, 0, 4, 4, 4)},
		{9, 3, made(9, 0, 3, 3, 3, 6, 3)},
		{11, 4, made(11, 0, 3, 3, 3, 6, 3, 9, 2)},
		{16, 16, singles(16)},
		{17, 16, made(17, 0, 2, 2, 1, 3, 1, 4, 1, 5, 1, 6, 1, 7, 1, 8, 1, 9, 1, 10, 1, 11, 1, 12, 1, 13, 1, 14, 1, 15, 1, 16, 1)},
		{63, 16, made(63, 0, 4, 4, 4, 8, 4, 12, 4, 16, 4, 20, 4, 24, 4, 28, 4, 32, 4, 36, 4, 40, 4, 44, 4, 48, 4, 52, 4, 56, 4, 60, 3)},
		{64, 16, made(64, 0, 4, 4, 4, 8, 4, 12, 4, 16, 4, 20, 4, 24, 4, 28, 4, 32, 4, 36, 4, 40, 4, 44, 4, 48, 4, 52, 4, 56, 4, 60, 4)},
	} {
		if got, e := Even(c.queues, c.classes); !equal(got, c.want) || e != api.OK {
			t.Errorf("Even(%d, %d) = %v, %d", c.queues, c.classes, got, e)
		}
	}
}

// P8.2, Even: the class of a priority is the priority modulo classes.
func TestEvenClasses(t *testing.T) {
	for n, want := range map[int][]int{
		1:  make([]int, 16),
		2:  {0, 1, 0, 1, 0, 1, 0, 1, 0, 1, 0, 1, 0, 1, 0, 1},
		3:  {0, 1, 2, 0, 1, 2, 0, 1, 2, 0, 1, 2, 0, 1, 2, 0},
		7:  {0, 1, 2, 3, 4, 5, 6, 0, 1, 2, 3, 4, 5, 6, 0, 1},
		15: {0, 1, 2, 3, 4, 5, 6, 7, 8, 9, 10, 11, 12, 13, 14, 0},
		16: {0, 1, 2, 3, 4, 5, 6, 7, 8, 9, 10, 11, 12, 13, 14, 15},
	} {
		if x, e := Even(20, n); !slices.Equal(x.Class, want) || e != api.OK {
			t.Errorf("Even(20, %d) = %v, %d", n, x, e)
		}
	}
}

// P8.2, Even: every pair of numbers at and around those that there are; valid tables without idle queues of all that are right, ErrArg and a zero table of all others.
func TestEveryEven(t *testing.T) {
	for _, queues := range around(-2, 70) {
		for _, n := range around(-2, 70) {
			x, e := Even(queues, n)
			if queues < 1 || queues > 64 || n < 1 || n > 16 || n > queues {
				if e != api.ErrArg || x.Queues != 0 || len(x.Class) != 0 || len(x.Spans) != 0 {
					t.Fatalf("Even(%d, %d) = %v, %d", queues, n, x, e)
				}
				continue
			}
			check(t, "Even", x)
			idle, _ := Idle(x)
			if e != api.OK || x.Queues != queues || !slices.Equal(x.Class, classes(n)) || len(x.Spans) != n || len(idle) != 0 {
				t.Fatalf("Even(%d, %d) = %v, %d, with %v idle", queues, n, x, e, idle)
			}
			next := 0
			for class, s := range x.Spans {
				cnt := queues / n
				if class < queues-queues/n*n {
					cnt++
				}
				if s.Off != next || s.Cnt != cnt {
					t.Fatalf("Even(%d, %d): span %d is %v", queues, n, class, s)
				}
				next += cnt
			}
		}
	}
}

// allPrios are the priorities 0 to 15.
func allPrios() []int { return classes(16) }

// P8.2, Moved: worked pairs, asked both ways.
func TestMoved(t *testing.T) {
	four := made(8, 0, 2, 2, 2, 4, 2, 6, 2)
	same := copied(four)
	swapped := copied(four) // other classes, other places of the spans, but each priority has the span that it had
	slices.Reverse(swapped.Spans)
	for prio := range swapped.Class {
		swapped.Class[prio] = 3 - swapped.Class[prio]
	}
	more := made(64, 0, 2, 2, 2, 4, 2, 6, 2, 8, 56) // other numbers of queues and spans, but each priority has the span that it had
	more.Class = classes(4)
	backwards := copied(four) // other classes of the same spans
	slices.Reverse(backwards.Class)
	for _, c := range []struct {
		name string
		b    api.Table
		want []int
	}{
		{"the same", same, nil},
		{"the same spans in other places", swapped, nil},
		{"the same spans in a greater table", more, nil},
		{"another Off of one span", withSpan(made(9, 0, 2, 2, 2, 4, 2, 6, 2), 3, api.Span{Off: 7, Cnt: 2}), []int{3, 7, 11, 15}},
		{"another Cnt of one span", withSpan(four, 0, api.Span{Off: 0, Cnt: 1}), []int{0, 4, 8, 12}},
		{"the same end, another Off", withSpan(four, 1, api.Span{Off: 3, Cnt: 1}), []int{1, 5, 9, 13}},
		{"two spans changed about", withSpan(withSpan(four, 1, four.Spans[2]), 2, four.Spans[1]), []int{1, 2, 5, 6, 9, 10, 13, 14}},
		{"priority 0", withClass(four, 0, 1), []int{0}},
		{"priority 7", withClass(four, 7, 0), []int{7}},
		{"priority 15", withClass(four, 15, 0), []int{15}},
		{"priorities 15, 0 and 6", withClass(withClass(withClass(four, 15, 1), 0, 3), 6, 0), []int{0, 6, 15}},
		{"all classes the other way about", backwards, allPrios()},
		{"all spans", made(8, 0, 1, 2, 1, 4, 1, 6, 1), allPrios()},
		{"one span only", made(8, 0, 8), allPrios()},
		{"one span that one class had", made(8, 2, 2), []int{0, 2, 3, 4, 6, 7, 8, 10, 11, 12, 14, 15}},
	} {
		for _, pair := range [][2]api.Table{{four, c.b}, {c.b, four}} {
			if l, e := Moved(pair[0], pair[1]); !slices.Equal(l, c.want) || e != api.OK {
				t.Errorf("%s: Moved(%v, %v) = %v, %d, want %v", c.name, pair[0], pair[1], l, e, c.want)
			}
		}
	}
}

// P8.2, Moved: a table and itself, and every two of the valid ones, held against the spans of each priority.
func TestMovedByHand(t *testing.T) {
	for nameA, a := range validTables() {
		if l, e := Moved(a, a); len(l) != 0 || e != api.OK {
			t.Errorf("%s: Moved from itself = %v, %d", nameA, l, e)
		}
		for nameB, b := range validTables() {
			var want []int
			for prio := range 16 {
				before, after := a.Spans[a.Class[prio]], b.Spans[b.Class[prio]]
				if before.Off != after.Off || before.Cnt != after.Cnt {
					want = append(want, prio)
				}
			}
			if l, e := Moved(a, b); !slices.Equal(l, want) || e != api.OK {
				t.Errorf("Moved from %s to %s = %v, %d, want %v", nameA, nameB, l, e, want)
			}
		}
	}
}

// randomTable is one of mostly valid tables: the queues gone through from 0 on, some left out, the spans put in another order.
func randomTable(r *rand.Rand) api.Table {
	t := api.Table{Queues: 1 + r.Intn(64)}
	for next := r.Intn(3); next < t.Queues && len(t.Spans) < 16; next += r.Intn(3) {
		cnt := 1 + r.Intn(8)
		if next+cnt > t.Queues && r.Intn(8) > 0 {
			cnt = t.Queues - next
		}
		t.Spans = append(t.Spans, api.Span{Off: next, Cnt: cnt})
		next += cnt
	}
	r.Shuffle(len(t.Spans), func(i, j int) { t.Spans[i], t.Spans[j] = t.Spans[j], t.Spans[i] })
	for range 16 {
		t.Class = append(t.Class, r.Intn(max(1, len(t.Spans)+1-min(1, r.Intn(40)))))
	}
	return t
}

// P8.1 and P8.3: many tables, valid and not, held against what is reckoned by hand.
func TestMany(t *testing.T) {
	r := rand.New(rand.NewSource(8))
	valid, not := 0, 0
	for range 4000 {
		x := randomTable(r)
		check(t, "many", x)
		if rightByHand(x) {
			valid++
		} else {
			not++
		}
	}
	if valid < 500 || not < 500 {
		t.Errorf("%d valid tables and %d others are too few to tell", valid, not)
	}
}

// P8.3: every queue of a span has its class as its owner; a queue is idle if and only if it has no class.
func TestProperties(t *testing.T) {
	tables := validTables()
	for queues := 1; queues <= 64; queues++ {
		for n := 1; n <= min(16, queues); n++ {
			x, _ := Even(queues, n)
			tables[fmt.Sprint("Even ", queues, " ", n)] = x
		}
	}
	for name, x := range tables {
		owned := 0
		for class, s := range x.Spans {
			for queue := s.Off; queue < s.Off+s.Cnt; queue++ {
				if c, e := Owner(x, queue); c != class || e != api.OK {
					t.Errorf("%s: Owner(%d) = %d, %d, of the span of %d", name, queue, c, e, class)
				}
				owned++
			}
		}
		idle, _ := Idle(x)
		for queue := range x.Queues {
			c, _ := Owner(x, queue)
			if (c == -1) != slices.Contains(idle, queue) {
				t.Errorf("%s: queue %d has the owner %d, and the idle ones are %v", name, queue, c, idle)
			}
		}
		if !slices.IsSorted(idle) || owned+len(idle) != x.Queues {
			t.Errorf("%s: %d queues are owned, and idle are %v", name, owned, idle)
		}
	}
}

// R3: a table that is handed in is not changed, its spare capacity not written to.
func TestArgumentsStay(t *testing.T) {
	spare := func(x api.Table) api.Table {
		class := append(slices.Grow([]int(nil), 40), x.Class...)
		spans := append(slices.Grow([]api.Span(nil), 40), x.Spans...)
		for i := len(class); i < cap(class); i++ {
			class[:cap(class)][i] = -7
		}
		for i := len(spans); i < cap(spans); i++ {
			spans[:cap(spans)][i] = api.Span{Off: -7, Cnt: -7}
		}
		return api.Table{Queues: x.Queues, Class: class, Spans: spans}
	}
	whole := func(x api.Table) api.Table {
		return api.Table{Queues: x.Queues, Class: slices.Clone(x.Class[:cap(x.Class)]), Spans: slices.Clone(x.Spans[:cap(x.Spans)])}
	}
	all := validTables()
	for name, x := range invalidTables() {
		all["not valid: "+name] = x
	}
	for name, x := range all {
		x = spare(x)
		other := spare(made(4, 0, 2, 2, 2))
		before, otherBefore := whole(x), whole(other)
		Right(x)
		ClassOf(x, 3)
		SpanOf(x, 3)
		Owner(x, 0)
		Idle(x)
		Moved(x, other)
		Moved(other, x)
		if !equal(whole(x), before) || !equal(whole(other), otherBefore) {
			t.Errorf("%s: changed", name)
		}
	}
}

// R3: what is answered is new: it may be written over, with its spare capacity, and neither an argument nor another answer tells.
func TestAnswersAreNew(t *testing.T) {
	overwrite := func(l []int) {
		for i := range l[:cap(l)] {
			l[:cap(l)][i] = 99
		}
	}
	x, y := made(9, 1, 1, 4, 2, 7, 1), made(9, 1, 1, 4, 1, 7, 1)
	beforeX, beforeY := copied(x), copied(y)
	for range 2 {
		idle, e := Idle(x)
		if !slices.Equal(idle, []int{0, 2, 3, 6, 8}) || e != api.OK {
			t.Errorf("Idle = %v, %d", idle, e)
		}
		moved, e := Moved(x, y)
		if !slices.Equal(moved, []int{1, 4, 7, 10, 13}) || e != api.OK {
			t.Errorf("Moved = %v, %d", moved, e)
		}
		overwrite(idle)
		overwrite(moved)
		if !equal(x, beforeX) || !equal(y, beforeY) {
			t.Error("an answer shares memory with an argument")
		}
		even, _ := Even(8, 2)
		again, _ := Even(8, 2)
		overwrite(even.Class)
		for i := range even.Spans[:cap(even.Spans)] {
			even.Spans[:cap(even.Spans)][i] = api.Span{Off: 99, Cnt: 99}
		}
		if !equal(again, made(8, 0, 4, 4, 4)) {
			t.Error("two answers share memory")
		}
	}
}

// R3: nil slices and empty ones are the same.
func TestNilAndEmpty(t *testing.T) {
	for _, class := range [][]int{nil, {}, make([]int, 16)} {
		for _, s := range [][]api.Span{nil, {}, make([]api.Span, 0, 4)} {
			check(t, "empty", api.Table{Queues: 4, Class: class, Spans: s})
		}
	}
	check(t, "no classes", api.Table{Queues: 4, Spans: []api.Span{{Off: 0, Cnt: 1}}})
	check(t, "no classes", api.Table{Queues: 4, Class: []int{}, Spans: []api.Span{{Off: 0, Cnt: 1}}})
}

// R1: tables of very many spans, and of spans of very many queues, are answered all the same.
func TestGreatTables(t *testing.T) {
	x := made(64, 0, 1)
	x.Spans = make([]api.Span, 1<<20)
	x.Class = make([]int, 1<<20)
	check(t, "very many spans and classes", x)
	x.Class = x.Class[:16]
	check(t, "very many spans", x)
	x.Queues, x.Spans = math.MaxInt, []api.Span{{Off: 0, Cnt: math.MaxInt}}
	check(t, "very many queues", x)
}

// The visit of spans ends by itself, can be left early and gone through again.
func TestSpans(t *testing.T) {
	x := made(9, 6, 3, 0, 1, 2, 2)
	visit := spans(x)
	for range 2 {
		var got []api.Span
		for class, s := range visit {
			if class != len(got) {
				t.Errorf("class %d after %d others", class, len(got))
			}
			got = append(got, s)
		}
		if !slices.Equal(got, x.Spans) {
			t.Errorf("visited %v", got)
		}
		for class, s := range visit {
			if class != 0 || s != x.Spans[0] {
				t.Errorf("the first span is %v, of %d", s, class)
			}
			break
		}
	}
}
