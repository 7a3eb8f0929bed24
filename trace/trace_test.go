package trace

import (
	"fmt"
	"math"
	"slices"
	"testing"

	"dormouse/api"
)

// most is the greatest From, Len or Cycles of which the chapter speaks.
const most = 1 << 30

// lastingKinds are those of which two can be one, onceKinds those of which
// two never are.
var (
	lastingKinds = []int{api.Run, api.Idle, api.Asleep}
	onceKinds    = []int{api.Switch, api.Enter, api.Exit}
)

// noKinds are numbers that are no kind, such among them as are one in fewer
// bits.
var noKinds = []int{
	math.MinInt, math.MinInt + 1, -1 << 32, -5, -2, -1, 0, 7, 8,
	1<<8 + 1, 1<<16 + 2, 1<<32 + 1, 1<<32 + 2, 1<<32 + 5, math.MaxInt - 1, math.MaxInt,
}

// anything are numbers for an Arg and a Task: small ones, and the ends of int.
var anything = []int{math.MinInt, math.MinInt + 1, -1 << 32, -1, 0, 1, 2, 5, 6, 1 << 32, math.MaxInt - 1, math.MaxInt}

// edges are numbers for From, Len and Cycles.
var edges = []int{0, 1, 2, most - 1, most}

// allKinds are all numbers that the tests take for a Kind.
func allKinds() []int {
	return slices.Concat(lastingKinds, onceKinds, noKinds)
}

// joinIs holds Join against what is wanted, twice.
func joinIs(t *testing.T, name string, a, b, want api.Interval, wantOK bool) {
	t.Helper()
	for range 2 {
		if got, ok := Join(a, b); got != want || ok != wantOK {
			t.Fatalf("%s: Join(%+v, %+v) is %+v, %v, not %+v, %v", name, a, b, got, ok, want, wantOK)
		}
	}
}

// apart holds that two intervals can not be joined: a false, and beside it
// the zero value.
func apart(t *testing.T, name string, a, b api.Interval) {
	t.Helper()
	joinIs(t, name, a, b, api.Interval{}, false)
}

// built is a trace to which these were added, one by one.
func built(list ...api.Interval) *Trace {
	x := New()
	for _, i := range list {
		x.Add(i)
	}
	return x
}

// traceIs holds List and End against what is wanted, twice: to look changes
// nothing.
func traceIs(t *testing.T, name string, x *Trace, want ...api.Interval) {
	t.Helper()
	wantEnd := 0
	if len(want) > 0 {
		last := want[len(want)-1]
		wantEnd = last.From + last.Len
	}
	for range 2 {
		if got := x.List(); !slices.Equal(got, want) {
			t.Fatalf("%s: List is %+v, not %+v", name, got, want)
		}
		if got := x.End(); got != wantEnd {
			t.Fatalf("%s: End is %d, not %d", name, got, wantEnd)
		}
	}
}

// P6.1, P6.2: the chapter's first example.
func TestExampleOne(t *testing.T) {
	a, b := api.Interval{Kind: api.Idle, Len: 1}, api.Interval{Kind: api.Idle, From: 1, Len: 1}
	both := api.Interval{Kind: api.Idle, Len: 2}
	joinIs(t, "two idle quanta", a, b, both, true)
	traceIs(t, "two idle quanta", built(a, b), both)
}

// P6.1, P6.2: the chapter's second example.
func TestExampleTwo(t *testing.T) {
	for _, length := range []int{0, 1, 3, most} {
		a := api.Interval{Kind: api.Switch, Len: length, Arg: 1}
		b := api.Interval{Kind: api.Switch, From: length, Len: length, Arg: 1}
		apart(t, "two Switches", a, b)
		traceIs(t, "two Switches", built(a, b), a, b)
	}
}

// P6.1: two that are alike, one behind the other, of each Kind: which can be
// joined, and that the joined one is the first with the Len and the Cycles of
// both.
func TestJoinEachKind(t *testing.T) {
	for _, kind := range allKinds() {
		a := api.Interval{Kind: kind, From: 11, Len: 3, Arg: 2, Task: 4, Cycles: 7}
		b := api.Interval{Kind: kind, From: 14, Len: 20, Arg: 2, Task: 4, Cycles: 500}
		if slices.Contains(lastingKinds, kind) {
			joinIs(t, "alike", a, b, api.Interval{Kind: kind, From: 11, Len: 23, Arg: 2, Task: 4, Cycles: 507}, true)
		} else {
			apart(t, "alike", a, b)
		}
		apart(t, "the second one first", b, a)
	}
}

// P6.1: the same one twice can be joined just if it has no Len.
func TestJoinSelf(t *testing.T) {
	for _, kind := range allKinds() {
		for _, length := range edges {
			a := api.Interval{Kind: kind, From: 6, Len: length, Arg: 1, Task: 2, Cycles: 9}
			if length == 0 && slices.Contains(lastingKinds, kind) {
				joinIs(t, "no Len", a, a, api.Interval{Kind: kind, From: 6, Arg: 1, Task: 2, Cycles: 18}, true)
			} else {
				apart(t, "itself", a, a)
			}
		}
	}
}

// P6.1: the zero interval is of no Kind.
func TestJoinZero(t *testing.T) {
	apart(t, "zero values", api.Interval{}, api.Interval{})
	for _, kind := range allKinds() {
		a := api.Interval{Kind: kind, Cycles: 1}
		if kind == 0 {
			continue
		}
		apart(t, "a zero value behind", a, api.Interval{})
		apart(t, "a zero value ahead", api.Interval{}, a)
	}
}

// P6.1: two Kinds that differ are never joined, be all else alike.
func TestJoinOtherKind(t *testing.T) {
	for _, first := range allKinds() {
		for _, second := range allKinds() {
			if first == second {
				continue
			}
			a := api.Interval{Kind: first, From: 5, Len: 2, Arg: 1, Task: 3, Cycles: 2}
			b := api.Interval{Kind: second, From: 7, Len: 2, Arg: 1, Task: 3, Cycles: 2}
			apart(t, "another Kind", a, b)
		}
	}
}

// P6.1: Arg and Task may be any number; they have to be the same one in both,
// of each Kind, also where the Kind gives them no meaning.
func TestJoinArgAndTask(t *testing.T) {
	for _, kind := range lastingKinds {
		for _, x := range anything {
			for _, y := range anything {
				a := api.Interval{Kind: kind, From: 5, Len: 2, Arg: x, Task: y, Cycles: 1}
				b := api.Interval{Kind: kind, From: 7, Len: 3, Arg: x, Task: y, Cycles: 1}
				both := api.Interval{Kind: kind, From: 5, Len: 5, Arg: x, Task: y, Cycles: 2}
				joinIs(t, "alike", a, b, both, true)
				for _, other := range anything {
					c := b
					c.Arg = other
					if other != x {
						apart(t, "another Arg", a, c)
					}
					c = b
					c.Task = other
					if other != y {
						apart(t, "another Task", a, c)
					}
				}
			}
		}
	}
}

// P6.1: an Arg is not a Task: what is changed about is not alike.
func TestJoinArgForTask(t *testing.T) {
	for _, kind := range lastingKinds {
		a := api.Interval{Kind: kind, Len: 2, Arg: 1, Task: 2, Cycles: 1}
		b := api.Interval{Kind: kind, From: 2, Len: 2, Arg: 2, Task: 1, Cycles: 1}
		apart(t, "Arg and Task changed about", a, b)
	}
}

// P6.1: the second one's From, one less and one more than it should be, and
// elsewhere.
func TestJoinFrom(t *testing.T) {
	for _, kind := range lastingKinds {
		for _, from := range edges {
			for _, length := range edges {
				a := api.Interval{Kind: kind, From: from, Len: length, Arg: 1, Task: 1, Cycles: 4}
				for _, next := range append([]int{from, length, from + length - 1, from + length, from + length + 1}, edges...) {
					if next < 0 || next > most {
						continue
					}
					b := api.Interval{Kind: kind, From: next, Len: 3, Arg: 1, Task: 1, Cycles: 2}
					if next == from+length {
						both := api.Interval{Kind: kind, From: from, Len: length + 3, Arg: 1, Task: 1, Cycles: 6}
						joinIs(t, "where it ends", a, b, both, true)
					} else {
						apart(t, "elsewhere", a, b)
					}
				}
			}
		}
	}
}

// P6.1: From, Len and Cycles at 0, and at the greatest of which the chapter
// speaks.
func TestJoinEdges(t *testing.T) {
	for _, kind := range lastingKinds {
		for _, first := range edges {
			for _, second := range edges {
				for _, from := range []int{0, 1, most - first} {
					if from+first > most {
						continue
					}
					for _, cycles := range edges {
						a := api.Interval{Kind: kind, From: from, Len: first, Cycles: cycles}
						b := api.Interval{Kind: kind, From: from + first, Len: second, Cycles: most - cycles}
						both := api.Interval{Kind: kind, From: from, Len: first + second, Cycles: most}
						joinIs(t, "edges", a, b, both, true)
						b.Cycles, both.Cycles = most, most+cycles
						joinIs(t, "edges, more cycles", a, b, both, true)
					}
				}
			}
		}
	}
	a := api.Interval{Kind: api.Run, Len: most, Cycles: most}
	b := api.Interval{Kind: api.Run, From: most, Len: most, Cycles: most}
	joinIs(t, "the greatest", a, b, api.Interval{Kind: api.Run, Len: 1 << 31, Cycles: 1 << 31}, true)
	traceIs(t, "the greatest", built(a, b), api.Interval{Kind: api.Run, Len: 1 << 31, Cycles: 1 << 31})
}

// P6.2: a trace without intervals, made by New or by nobody.
func TestEmpty(t *testing.T) {
	for _, x := range []*Trace{New(), {}} {
		if x == nil {
			t.Fatal("New is nil")
		}
		traceIs(t, "none", x)
		x.Add(api.Interval{Kind: api.Idle, From: 3, Len: 2})
		traceIs(t, "the first", x, api.Interval{Kind: api.Idle, From: 3, Len: 2})
	}
}

// P6.2: the first interval stands as it is, whatever it is: no Kind, no Len,
// a From that is not 0.
func TestAddToEmpty(t *testing.T) {
	for _, kind := range allKinds() {
		for _, x := range anything {
			for _, n := range edges {
				i := api.Interval{Kind: kind, From: n, Len: most - n, Arg: x, Task: x / 2, Cycles: n}
				traceIs(t, "the first", built(i), i)
				i = api.Interval{Kind: kind, From: n, Len: n, Arg: x, Task: -x, Cycles: most - n}
				traceIs(t, "the first", built(i), i)
			}
		}
	}
	traceIs(t, "a zero value", built(api.Interval{}), api.Interval{})
	traceIs(t, "two zero values", built(api.Interval{}, api.Interval{}), api.Interval{}, api.Interval{})
}

// P6.2: what the CPU might do, by hand: the trace behind each Add.
func TestAddOneByOne(t *testing.T) {
	x := New()
	var want []api.Interval
	add := func(name string, i api.Interval, last api.Interval, joined bool) {
		t.Helper()
		x.Add(i)
		if joined {
			want = want[:len(want)-1]
		}
		want = append(want, last)
		traceIs(t, name, x, want...)
	}
	stays := func(name string, i api.Interval) {
		t.Helper()
		add(name, i, i, false)
	}
	run := func(from, length, level, task, cycles int) api.Interval {
		return api.Interval{Kind: api.Run, From: from, Len: length, Arg: level, Task: task, Cycles: cycles}
	}
	of := func(kind, from, length, arg int) api.Interval {
		return api.Interval{Kind: kind, From: from, Len: length, Arg: arg}
	}
	stays("a cycle", run(0, 2, 0, 1, 1))
	add("a second", run(2, 2, 0, 1, 1), run(0, 4, 0, 1, 2), true)
	add("a third", run(4, 2, 0, 1, 1), run(0, 6, 0, 1, 3), true)
	stays("another task's", run(6, 2, 0, 2, 1))
	stays("the first one's again", run(8, 2, 0, 1, 1))
	stays("a Switch", of(api.Switch, 10, 3, 1))
	stays("at another level", run(13, 3, 1, 1, 1))
	add("a second there", run(16, 3, 1, 1, 1), run(13, 6, 1, 1, 2), true)
	stays("idle", of(api.Idle, 19, 1, 0))
	add("idle yet", of(api.Idle, 20, 1, 0), of(api.Idle, 19, 2, 0), true)
	stays("an Enter", of(api.Enter, 21, 2, 1))
	stays("asleep", of(api.Asleep, 23, 1, 1))
	add("asleep yet", of(api.Asleep, 24, 1, 1), of(api.Asleep, 23, 2, 1), true)
	add("and yet", of(api.Asleep, 25, 1, 1), of(api.Asleep, 23, 3, 1), true)
	stays("in another state", of(api.Asleep, 26, 1, 0))
	stays("an Exit", of(api.Exit, 27, 4, 0))
	stays("a second one", of(api.Exit, 31, 4, 0))
	stays("an Enter", of(api.Enter, 35, 4, 0))
	stays("a second one", of(api.Enter, 39, 4, 0))
	stays("idle", of(api.Idle, 43, 1, 0))
	stays("a gap", of(api.Idle, 45, 1, 0))
	stays("too early", of(api.Idle, 45, 1, 0))
	stays("back at the beginning", of(api.Idle, 0, 1, 0))
}

// P6.2: what is joined is joined again, with what it has become: not with
// what was added last, nor with what stood there first.
func TestAddJoinsWhatItHasBecome(t *testing.T) {
	for _, kind := range lastingKinds {
		x := New()
		var pieces []api.Interval
		for n := range 100 {
			pieces = append(pieces, api.Interval{Kind: kind, From: 7 + 3*n, Len: 3, Arg: 1, Task: 2, Cycles: 2})
			x.Add(pieces[n])
			traceIs(t, "one more", x, api.Interval{Kind: kind, From: 7, Len: 3 * (n + 1), Arg: 1, Task: 2, Cycles: 2 * (n + 1)})
		}
		whole := api.Interval{Kind: kind, From: 7, Len: 300, Arg: 1, Task: 2, Cycles: 200}
		for _, from := range []int{0, 7, 10, 300, 304, 306, 308} {
			i := api.Interval{Kind: kind, From: from, Len: 1, Arg: 1, Task: 2, Cycles: 1}
			again := built(pieces...)
			again.Add(i)
			traceIs(t, "elsewhere", again, whole, i)
		}
		// One without Len leaves the end where it is, and yet adds its cycles.
		x.Add(api.Interval{Kind: kind, From: 307, Arg: 1, Task: 2, Cycles: 5})
		whole.Cycles += 5
		traceIs(t, "no Len", x, whole)
	}
}

// P6.2: an interval without Cycles, and one without Len, are joined too.
func TestAddNothings(t *testing.T) {
	for _, kind := range lastingKinds {
		x := built(api.Interval{Kind: kind}, api.Interval{Kind: kind}, api.Interval{Kind: kind})
		traceIs(t, "nothing thrice", x, api.Interval{Kind: kind})
		x.Add(api.Interval{Kind: kind, Len: most})
		x.Add(api.Interval{Kind: kind, From: most, Cycles: most})
		x.Add(api.Interval{Kind: kind, From: most, Cycles: most})
		x.Add(api.Interval{Kind: kind, From: most, Cycles: most})
		traceIs(t, "much", x, api.Interval{Kind: kind, Len: most, Cycles: 3 * most})
		x.Add(api.Interval{Kind: kind, From: most, Len: most})
		traceIs(t, "more", x, api.Interval{Kind: kind, Len: 2 * most, Cycles: 3 * most})
		x.Add(api.Interval{Kind: kind, From: most})
		traceIs(t, "behind the end", x, api.Interval{Kind: kind, Len: 2 * most, Cycles: 3 * most}, api.Interval{Kind: kind, From: most})
	}
}

// P6.2: only the last one is joined, though an earlier one could be.
func TestAddLooksAtTheLastAlone(t *testing.T) {
	for _, kind := range lastingKinds {
		for _, between := range allKinds() {
			first := api.Interval{Kind: kind, Len: 4, Arg: 1, Task: 1, Cycles: 2}
			other := api.Interval{Kind: between, From: 4, Arg: 2, Task: 3, Cycles: 9}
			again := api.Interval{Kind: kind, From: 4, Len: 5, Arg: 1, Task: 1, Cycles: 3}
			if _, ok := Join(first, again); !ok {
				t.Fatalf("%+v and %+v can not be joined", first, again)
			}
			traceIs(t, "one between", built(first, other, again), first, other, again)
		}
	}
}

// P6.2: End is of the last one alone, be it ahead of others.
func TestEndOfTheLast(t *testing.T) {
	x := built(api.Interval{Kind: api.Run, From: most, Len: most})
	for _, c := range []struct{ from, length, want int }{
		{5, 3, 8}, {0, 0, 0}, {most, 0, most}, {0, most, most}, {most, most, 1 << 31}, {2, 1, 3},
	} {
		x.Add(api.Interval{Kind: api.Switch, From: c.from, Len: c.length, Arg: 77, Task: 88, Cycles: 99})
		for range 2 {
			if got := x.End(); got != c.want {
				t.Fatalf("End is %d, not %d", got, c.want)
			}
		}
	}
}

// spoil turns all that a list holds, its spare room included, and puts more
// behind it.
func spoil(list []api.Interval) {
	list = list[:cap(list)]
	for n := range list {
		list[n] = api.Interval{Kind: 99, From: 99, Len: 99, Arg: 99, Task: 99, Cycles: 99}
	}
	_ = append(list[:len(list)/2], api.Interval{Kind: 98}, api.Interval{Kind: 98})
}

// P6.2, R4: what a caller does to a list that it was told, changes nothing in
// the trace, nor in another list.
func TestListIsTheCallersOwn(t *testing.T) {
	x := New()
	var want []api.Interval
	for n := range 40 {
		i := api.Interval{Kind: api.Run, From: 2 * n, Len: 2, Arg: 1, Task: n, Cycles: 1}
		x.Add(i)
		want = append(want, i)
		kept := x.List()
		spoil(x.List())
		_ = append(x.List(), api.Interval{Kind: 97})
		traceIs(t, "behind what the caller did", x, want...)
		if !slices.Equal(kept, want) {
			t.Fatalf("another list was turned: %+v", kept)
		}
		// Joined with the last: what the caller did to that is not seen.
		x.Add(api.Interval{Kind: api.Run, From: 2*n + 2, Arg: 1, Task: n, Cycles: 4})
		want[n].Cycles += 4
		traceIs(t, "joined behind that", x, want...)
	}
	spoil(New().List())
	traceIs(t, "a new trace", New())
}

// P6.2, R4: a list that was told stays as it was, whatever is added then.
func TestListStays(t *testing.T) {
	x := New()
	var told, want [][]api.Interval
	for n := range 60 {
		l := x.List()
		told, want = append(told, l), append(want, slices.Clone(l))
		kind := []int{api.Idle, api.Idle, api.Switch}[n%3]
		x.Add(api.Interval{Kind: kind, From: n, Len: 1, Cycles: n})
	}
	for n := range told {
		if !slices.Equal(told[n], want[n]) {
			t.Fatalf("list %d is %+v, and was %+v", n, told[n], want[n])
		}
	}
	if len(told[0]) != 0 || len(told[1]) != 1 || len(told[2]) != 1 || told[1][0].Len != 1 || told[2][0].Len != 2 {
		t.Fatalf("the first lists are %+v", told[:3])
	}
}

// R5: two traces share nothing.
func TestTwoTraces(t *testing.T) {
	x, y := New(), New()
	if x == y {
		t.Fatal("two traces are one")
	}
	var first, second []api.Interval
	for n := range 50 {
		i := api.Interval{Kind: api.Run, From: n, Len: 1, Task: n, Cycles: 1}
		j := api.Interval{Kind: api.Asleep, From: 100 + 2*n, Len: 2, Arg: n % 3}
		x.Add(i)
		first = append(first, i)
		traceIs(t, "the second", y, second...)
		y.Add(j)
		second = append(second, j)
		traceIs(t, "the first", x, first...)
		traceIs(t, "the second", y, second...)
	}
	// What the one ends with could be joined behind what the other ends with.
	x.Add(api.Interval{Kind: api.Idle, From: 50, Len: 1})
	y.Add(api.Interval{Kind: api.Idle, From: 51, Len: 1})
	traceIs(t, "the first", x, append(first, api.Interval{Kind: api.Idle, From: 50, Len: 1})...)
	traceIs(t, "the second", y, append(second, api.Interval{Kind: api.Idle, From: 51, Len: 1})...)
}

// P6.3: no trace at all.
func TestNil(t *testing.T) {
	var x *Trace
	traceIs(t, "nil", x)
	for _, kind := range allKinds() {
		for _, arg := range anything {
			x.Add(api.Interval{Kind: kind, From: 1, Len: most, Arg: arg, Task: arg, Cycles: most})
			traceIs(t, "nil", x)
		}
	}
	if x != nil {
		t.Fatal("it is there now")
	}
	traceIs(t, "a new one", New())
}

// numbers makes numbers that look like any, the same ones each time.
func numbers(seed uint64) func(n int) int {
	return func(n int) int {
		seed = seed*6364136223846793005 + 1442695040888963407
		return int(seed>>33) % n
	}
}

// drawn is an interval that mostly begins at a moment, and is mostly of few
// Kinds, so that many can be joined.
func drawn(next func(n int) int, at, greatest int) api.Interval {
	i := api.Interval{
		Kind: 1 + next(6), From: at, Len: next(greatest + 1),
		Arg: next(2), Task: next(2), Cycles: next(greatest + 1),
	}
	if next(2) == 0 {
		i.Kind, i.Arg, i.Task = api.Idle, 0, 0
	}
	switch next(20) {
	case 0:
		i.From = max(0, at-1)
	case 1:
		i.From = at + 1
	case 2:
		i.From = next(greatest + 1)
	case 3:
		i.Kind = noKinds[next(len(noKinds))]
	case 4:
		i.Arg = anything[next(len(anything))]
	case 5:
		i.Task = anything[next(len(anything))]
	}
	return i
}

// goesOn says whether b goes on with a, by their texts but for From, Len and
// Cycles.
func goesOn(a, b api.Interval) bool {
	text := func(i api.Interval) string { return fmt.Sprint(i.Kind, " ", i.Arg, " ", i.Task) }
	return text(a) == text(b) && slices.Contains(lastingKinds, a.Kind) && b.From-a.From == a.Len
}

// plain is what a trace of these has to be: they are parted wherever one does
// not go on with its neighbour, and each part is one interval of plain sums.
func plain(list []api.Interval) (parts []api.Interval) {
	for first := 0; first < len(list); {
		behind := first + 1
		for behind < len(list) && goesOn(list[behind-1], list[behind]) {
			behind++
		}
		part := list[first]
		part.Len, part.Cycles = sums(list[first:behind])
		parts = append(parts, part)
		first = behind
	}
	return parts
}

// sums are the Len and the Cycles of all together.
func sums(list []api.Interval) (length, cycles int) {
	for _, i := range list {
		length += i.Len
		cycles += i.Cycles
	}
	return length, cycles
}

// P6.1, P6.2: many intervals one behind the other, against a plain list, and
// against the plain sums of Len and Cycles.
func TestManyIntervals(t *testing.T) {
	next := numbers(6)
	joined := 0
	for round := range 300 {
		greatest := []int{1, 5, 1000, 1 << 20}[round%4]
		x := New()
		var list []api.Interval
		for range next(150) {
			i := drawn(next, x.End(), greatest)
			x.Add(i)
			list = append(list, i)
			if next(8) == 0 {
				spoil(x.List())
				traceIs(t, "on the way", x, plain(list)...)
			}
		}
		traceIs(t, "at the end", x, plain(list)...)
		length, cycles := sums(list)
		gotLength, gotCycles := sums(x.List())
		if gotLength != length || gotCycles != cycles {
			t.Fatalf("all together are %d, %d, not %d, %d", gotLength, gotCycles, length, cycles)
		}
		joined += len(list) - len(x.List())
	}
	if joined < 1000 {
		t.Fatalf("only %d were joined: the test says little", joined)
	}
}

// P6.1, P6.2: the same of single quanta that go on without a gap, as a CPU
// has them: they are all of the time.
func TestAllOfTheTime(t *testing.T) {
	next := numbers(60)
	for range 50 {
		x := New()
		now, run := 0, 0
		kind := api.Idle
		for range 1000 {
			if next(5) == 0 {
				kind = 1 + next(6)
			}
			i := api.Interval{Kind: kind, From: now, Len: 1}
			if kind == api.Run {
				i.Cycles = 1
				run++
			}
			x.Add(i)
			now++
			if x.End() != now {
				t.Fatalf("End is %d, not %d", x.End(), now)
			}
		}
		list := x.List()
		at := 0
		for n, i := range list {
			if i.From != at {
				t.Fatalf("interval %d has From %d, not %d", n, i.From, at)
			}
			if n > 0 && goesOn(list[n-1], i) {
				t.Fatalf("%+v and %+v are two", list[n-1], i)
			}
			at += i.Len
		}
		if length, cycles := sums(list); length != now || cycles != run {
			t.Fatalf("all together are %d, %d, not %d, %d", length, cycles, now, run)
		}
	}
}
