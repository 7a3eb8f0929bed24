package latch

import (
	"math"
	"math/rand/v2"
	"slices"
	"testing"

	"dormouse/api"
)

// thing is what waits, or comes: of which task, when, and with which cycles.
type thing struct{ task, at, cycles int }

// plain is what a latch has to be, as a list in no order.
type plain struct{ list []thing }

// place is where in the list something of that task is, or -1.
func (p *plain) place(task int) int {
	return slices.IndexFunc(p.list, func(x thing) bool { return x.task == task })
}

func (p *plain) put(task, at, cycles int) bool {
	if p.place(task) >= 0 {
		return false
	}
	p.list = append(p.list, thing{task, at, cycles})
	return true
}

func (p *plain) next(now int) (thing, bool) {
	if len(p.list) == 0 {
		return thing{}, false
	}
	first := p.list[0]
	for _, x := range p.list {
		if x.at < first.at || x.at == first.at && x.task < first.task {
			first = x
		}
	}
	if first.at > now {
		return thing{}, false
	}
	p.list = slices.DeleteFunc(p.list, func(x thing) bool { return x == first })
	return first, true
}

// ends are numbers at both ends of an int, around 0, and around Never.
var ends = []int{
	math.MinInt, math.MinInt + 1, -api.Never - 1, -api.Never, -2, -1, 0, 1, 2,
	api.Never - 1, api.Never, api.Never + 1, math.MaxInt - 1, math.MaxInt,
}

// built is a latch into which these were put, one by one.
func built(t *testing.T, list ...thing) *Latch {
	t.Helper()
	l := New()
	for _, x := range list {
		putIs(t, l, x, true)
	}
	return l
}

// putIs holds one Put against what is wanted.
func putIs(t *testing.T, l *Latch, x thing, want bool) {
	t.Helper()
	if got := l.Put(x.task, x.at, x.cycles); got != want {
		t.Fatalf("Put(%d, %d, %d) is %v, not %v", x.task, x.at, x.cycles, got, want)
	}
}

// waitIs holds Waits of one task against what is wanted, and so twice: to look
// changes nothing.
func waitIs(t *testing.T, l *Latch, task int, want bool) {
	t.Helper()
	for range 2 {
		if got := l.Waits(task); got != want {
			t.Fatalf("Waits(%d) is %v, not %v", task, got, want)
		}
	}
}

// lenIs holds Len against what is wanted, and so twice.
func lenIs(t *testing.T, l *Latch, want int) {
	t.Helper()
	for range 2 {
		if got := l.Len(); got != want {
			t.Fatalf("Len is %d, not %d", got, want)
		}
	}
}

// nextIs holds one Next that has to answer this.
func nextIs(t *testing.T, l *Latch, now int, want thing) {
	t.Helper()
	if task, at, cycles, ok := l.Next(now); (thing{task, at, cycles}) != want || !ok {
		t.Fatalf("Next(%d) is %d, %d, %d, %v, not %d, %d, %d, true", now, task, at, cycles, ok, want.task, want.at, want.cycles)
	}
}

// noneAt holds that nothing comes, and asks twice: such a Next changes nothing.
func noneAt(t *testing.T, l *Latch, now int) {
	t.Helper()
	before := l.Len()
	for range 2 {
		if task, at, cycles, ok := l.Next(now); task != 0 || at != 0 || cycles != 0 || ok {
			t.Fatalf("Next(%d) is %d, %d, %d, %v, not none", now, task, at, cycles, ok)
		}
		lenIs(t, l, before)
	}
}

// givesTo takes all that comes by now, which has to be this in that order, and
// nothing more. Len and Waits are held against it, call by call.
func givesTo(t *testing.T, l *Latch, now int, want ...thing) {
	t.Helper()
	before := l.Len()
	for i, x := range want {
		waitIs(t, l, x.task, true)
		nextIs(t, l, now, x)
		waitIs(t, l, x.task, false)
		lenIs(t, l, before-i-1)
	}
	noneAt(t, l, now)
}

// puts puts one thing into both, and holds the answers against each other.
func puts(t *testing.T, l *Latch, p *plain, x thing) bool {
	t.Helper()
	want := p.put(x.task, x.at, x.cycles)
	putIs(t, l, x, want)
	waitIs(t, l, x.task, true)
	lenIs(t, l, len(p.list))
	return want
}

// takes asks both what comes, and holds the answers against each other.
func takes(t *testing.T, l *Latch, p *plain, now int) bool {
	t.Helper()
	want, ok := p.next(now)
	if ok {
		nextIs(t, l, now, want)
		waitIs(t, l, want.task, false)
	} else {
		noneAt(t, l, now)
	}
	lenIs(t, l, len(p.list))
	return ok
}

// holds holds Waits of these tasks, and Len, against the plain list.
func holds(t *testing.T, l *Latch, p *plain, tasks ...int) {
	t.Helper()
	for _, task := range tasks {
		waitIs(t, l, task, p.place(task) >= 0)
	}
	lenIs(t, l, len(p.list))
}

// P19.1, P19.2: the chapter's example.
func TestExample(t *testing.T) {
	l := built(t, thing{1, 5, 9})
	noneAt(t, l, 4)
	givesTo(t, l, 6, thing{1, 5, 9})
	lenIs(t, l, 0)
}

// P19.1, P19.2: a latch of which nothing waits: new, made by nobody, or one
// from which all has come.
func TestNothingWaits(t *testing.T) {
	one, two := built(t, thing{4, 9, 3}), built(t, thing{4, 9, 3}, thing{2, 7, 1})
	givesTo(t, one, 9, thing{4, 9, 3})
	givesTo(t, two, 9, thing{2, 7, 1}, thing{4, 9, 3})
	for _, l := range []*Latch{New(), {}, one, two} {
		if l == nil {
			t.Fatal("New is nil")
		}
		lenIs(t, l, 0)
		for _, n := range append([]int{3, 4, 7, 9}, ends...) {
			noneAt(t, l, n)
			waitIs(t, l, n, false)
			lenIs(t, l, 0)
		}
		putIs(t, l, thing{0, 0, 0}, true)
		waitIs(t, l, 0, true)
		lenIs(t, l, 1)
		noneAt(t, l, -1)
		givesTo(t, l, 0, thing{0, 0, 0})
		lenIs(t, l, 0)
	}
}

// P19.1: what is put waits, beside all others, and Len is one more.
func TestPut(t *testing.T) {
	l, tasks := New(), []int{3, -3, 0, 7, math.MaxInt, math.MinInt, -1, 1}
	for i, task := range tasks {
		waitIs(t, l, task, false)
		putIs(t, l, thing{task, 10 - i, i}, true)
		for j, other := range tasks {
			waitIs(t, l, other, j <= i)
		}
		lenIs(t, l, i+1)
	}
	for _, other := range []int{2, -2, 4, 6, 8, math.MaxInt - 1, math.MinInt + 1} {
		waitIs(t, l, other, false)
	}
	lenIs(t, l, len(tasks))
}

// P19.1, R6: of a task of which something waits no second thing does, whatever
// it is: what waits keeps its moment and its cycles.
func TestPutWhereOneWaits(t *testing.T) {
	first, other := thing{3, 10, 6}, thing{5, 12, 2}
	for _, second := range []thing{
		{3, 10, 6},
		{3, 10, 5}, {3, 10, 7}, {3, 10, 0}, {3, 10, -6},
		{3, 9, 6}, {3, 11, 6}, {3, 13, 6},
		{3, 4, 8}, {3, 20, 1}, {3, 0, 0},
		{3, math.MinInt, math.MaxInt}, {3, math.MaxInt, math.MinInt},
	} {
		l := built(t, first, other)
		for range 3 {
			putIs(t, l, second, false)
			waitIs(t, l, 3, true)
			waitIs(t, l, 5, true)
			lenIs(t, l, 2)
		}
		noneAt(t, l, 9)
		givesTo(t, l, 11, first)
		givesTo(t, l, 12, other)
		noneAt(t, l, math.MaxInt)
	}
}

// P19.1: when what waited has come, something of that task can be put again,
// with a moment and cycles of its own; not ahead of that.
func TestPutAgain(t *testing.T) {
	for _, again := range []thing{
		{3, 10, 6}, {3, 10, 0}, {3, 4, 6}, {3, 20, 6}, {3, 0, 0}, {3, -10, -6},
		{3, math.MinInt, math.MaxInt}, {3, math.MaxInt, math.MinInt},
	} {
		l := built(t, thing{3, 10, 6})
		noneAt(t, l, 9)
		putIs(t, l, again, false)
		givesTo(t, l, 10, thing{3, 10, 6})
		putIs(t, l, again, true)
		putIs(t, l, thing{3, 1, 1}, false)
		waitIs(t, l, 3, true)
		lenIs(t, l, 1)
		givesTo(t, l, again.at, again)
		lenIs(t, l, 0)
	}
	l := New()
	for i := range 100 {
		x := thing{3, 100 - i, 7*i - 300}
		putIs(t, l, x, true)
		lenIs(t, l, 1)
		givesTo(t, l, 100, x)
	}
}

// P19.1: Len behind each call, up to many tasks, and down to none.
func TestManyTasks(t *testing.T) {
	const many = 1000
	l := New()
	for i := range many {
		// 7 and 1000 have no divisor in common: each task comes once.
		task := 7*i%many - many/2
		putIs(t, l, thing{task, -task, 3 * task}, true)
		lenIs(t, l, i+1)
	}
	for task := -many / 2; task < many/2; task++ {
		waitIs(t, l, task, true)
		putIs(t, l, thing{task, 0, 0}, false)
	}
	waitIs(t, l, many/2, false)
	waitIs(t, l, -many/2-1, false)
	lenIs(t, l, many)
	for i := range many {
		task := many/2 - 1 - i
		noneAt(t, l, -task-1)
		nextIs(t, l, -task, thing{task, -task, 3 * task})
		waitIs(t, l, task, false)
		lenIs(t, l, many-1-i)
	}
	noneAt(t, l, math.MaxInt)
}

// P19.2, R6: just ahead of the moment, at it, and behind it. Ahead of it
// nothing changes.
func TestAroundMoment(t *testing.T) {
	for _, at := range []int{math.MinInt + 2, -api.Never, -1, 0, 1, 1000, api.Never - 1, api.Never, api.Never + 1, math.MaxInt - 4} {
		x, later := thing{3, at, 8}, thing{2, at + 3, 9}
		for _, now := range []int{math.MinInt, at - 2, at - 1} {
			l := built(t, later, x)
			noneAt(t, l, now)
			waitIs(t, l, 3, true)
			waitIs(t, l, 2, true)
			givesTo(t, l, at, x)
			givesTo(t, l, at+3, later)
		}
		for _, now := range []int{at, at + 1, at + 2} {
			l := built(t, later, x)
			givesTo(t, l, now, x)
			waitIs(t, l, 2, true)
			givesTo(t, l, math.MaxInt, later)
		}
		for _, now := range []int{at + 3, at + 4, math.MaxInt} {
			givesTo(t, built(t, later, x), now, x, later)
		}
	}
}

// orders calls do with each order of these.
func orders(list []thing, do func([]thing)) {
	var from func(int)
	from = func(n int) {
		if n == len(list) {
			do(list)
			return
		}
		for i := n; i < len(list); i++ {
			list[n], list[i] = list[i], list[n]
			from(n + 1)
			list[n], list[i] = list[i], list[n]
		}
	}
	from(0)
}

// P19.2: the least moment comes first, and of one moment the least task, in
// whichever order they were put; the cycles come with their own task.
func TestEachOrder(t *testing.T) {
	for _, sorted := range [][]thing{
		{{9, -4, 1}, {4, -1, 5}, {0, 0, 2}, {-7, 6, 4}, {3, 8, 3}},
		{{-7, 8, 5}, {-1, 8, 1}, {0, 8, 4}, {3, 8, 2}, {12, 8, 3}},
		{{-2, -3, 7}, {5, -3, 6}, {-5, 2, 7}, {0, 2, 0}, {1, 2, -7}},
		{{5, 1, 9}, {1, 2, 9}, {4, 2, 8}, {2, 3, 9}, {3, 3, 8}},
		{{6, math.MinInt, 0}, {7, -1, math.MaxInt}, {math.MinInt, math.MaxInt, 1}, {0, math.MaxInt, math.MinInt}, {math.MaxInt, math.MaxInt, 2}},
	} {
		count := 0
		orders(slices.Clone(sorted), func(list []thing) {
			count++
			givesTo(t, built(t, list...), math.MaxInt, sorted...)
			l := built(t, list...)
			for i, x := range sorted {
				if i > 0 && x.at > sorted[i-1].at {
					noneAt(t, l, x.at-1)
				}
				nextIs(t, l, x.at, x)
			}
			lenIs(t, l, 0)
		})
		if count != 120 {
			t.Fatalf("%d orders, not 120", count)
		}
	}
}

// P19.2: what comes does not wait any more, and comes once; what waits for a
// later moment stays.
func TestComesOnce(t *testing.T) {
	l := built(t, thing{1, 5, 2}, thing{2, 9, 4}, thing{3, 5, 6}, thing{4, 7, 8})
	givesTo(t, l, 5, thing{1, 5, 2}, thing{3, 5, 6})
	noneAt(t, l, 6)
	waitIs(t, l, 2, true)
	waitIs(t, l, 4, true)
	givesTo(t, l, 8, thing{4, 7, 8})
	waitIs(t, l, 2, true)
	lenIs(t, l, 1)
	givesTo(t, l, math.MaxInt, thing{2, 9, 4})
	lenIs(t, l, 0)
}

// P19.2: what is put between calls comes at its own place among the others.
func TestPutBetween(t *testing.T) {
	l := built(t, thing{1, 5, 2}, thing{2, 9, 4}, thing{3, 7, 6})
	nextIs(t, l, 9, thing{1, 5, 2})
	putIs(t, l, thing{1, 9, 3}, true)
	putIs(t, l, thing{0, 3, 1}, true)
	lenIs(t, l, 4)
	nextIs(t, l, 9, thing{0, 3, 1})
	putIs(t, l, thing{0, 12, 5}, true)
	putIs(t, l, thing{-4, 7, 0}, true)
	givesTo(t, l, 9, thing{-4, 7, 0}, thing{3, 7, 6}, thing{1, 9, 3}, thing{2, 9, 4})
	givesTo(t, l, 12, thing{0, 12, 5})
}

// P19.2: now may go back between calls: what has come does not come again, and
// what is put then may be ahead of it.
func TestNowGoesBack(t *testing.T) {
	l := built(t, thing{1, 5, 2}, thing{2, 9, 4}, thing{3, 14, 6})
	givesTo(t, l, 12, thing{1, 5, 2}, thing{2, 9, 4})
	noneAt(t, l, 9)
	noneAt(t, l, 13)
	noneAt(t, l, math.MinInt)
	putIs(t, l, thing{1, 3, 7}, true)
	noneAt(t, l, 2)
	nextIs(t, l, 3, thing{1, 3, 7})
	noneAt(t, l, 13)
	givesTo(t, l, 14, thing{3, 14, 6})
}

// P19.2: many that come at once, one behind the other till there is none.
func TestManyAtOnce(t *testing.T) {
	const many = 500
	l := New()
	var want []thing
	for i := range many {
		want = append(want, thing{i - many/2, 40, i * i})
		task := 9*i%many - many/2
		putIs(t, l, thing{task, 40, (task + many/2) * (task + many/2)}, true)
	}
	putIs(t, l, thing{many, 41, 1}, true)
	putIs(t, l, thing{-many, 41, 2}, true)
	noneAt(t, l, 39)
	givesTo(t, l, 40, want...)
	lenIs(t, l, 2)
	givesTo(t, l, 41, thing{-many, 41, 2}, thing{many, 41, 1})
}

// P19.1, P19.2, R1: tasks, moments, cycles and now below 0, 0, and at both
// ends of an int: nothing wraps round, and no number is another one.
func TestEnds(t *testing.T) {
	for _, task := range ends {
		for _, at := range ends {
			for _, cycles := range ends {
				x := thing{task, at, cycles}
				l := built(t, x)
				for _, other := range ends {
					waitIs(t, l, other, other == task)
				}
				for _, now := range ends {
					if now < at {
						noneAt(t, l, now)
					}
				}
				putIs(t, l, thing{task, cycles, at}, false)
				nextIs(t, l, at, x)
				lenIs(t, l, 0)
				noneAt(t, l, math.MaxInt)
			}
		}
	}
	for _, at := range ends {
		for _, now := range ends {
			if now >= at {
				givesTo(t, built(t, thing{0, at, 0}), now, thing{0, at, 0})
			}
		}
	}
}

// P19.1, P19.2, R1: all of these at once, against the plain list.
func TestEndsTogether(t *testing.T) {
	for turn := range ends {
		l, p := New(), &plain{}
		for i, task := range ends {
			puts(t, l, p, thing{task, ends[(5*i+turn)%len(ends)], ends[(3*i+turn)%len(ends)]})
		}
		for _, now := range ends {
			for takes(t, l, p, now) {
				holds(t, l, p, ends...)
			}
		}
		lenIs(t, l, 0)
	}
}

// P19.3
func TestNil(t *testing.T) {
	var l *Latch
	for range 2 {
		for _, n := range ends {
			for _, m := range ends {
				putIs(t, l, thing{n, m, 1}, false)
				putIs(t, l, thing{1, n, m}, false)
				putIs(t, l, thing{m, 1, n}, false)
			}
			waitIs(t, l, n, false)
			noneAt(t, l, n)
			lenIs(t, l, 0)
		}
		waitIs(t, l, 1, false)
	}
	if l != nil {
		t.Error("a nil latch is not nil any more")
	}
}

// R5: two latches that are used by turns do not touch one another.
func TestApart(t *testing.T) {
	a, b := New(), New()
	putIs(t, a, thing{1, 5, 2}, true)
	waitIs(t, b, 1, false)
	lenIs(t, b, 0)
	noneAt(t, b, 9)
	putIs(t, b, thing{1, 4, 3}, true)
	putIs(t, b, thing{2, 6, 4}, true)
	waitIs(t, a, 2, false)
	lenIs(t, a, 1)
	nextIs(t, a, 9, thing{1, 5, 2})
	waitIs(t, b, 1, true)
	lenIs(t, b, 2)
	putIs(t, a, thing{2, 8, 7}, true)
	givesTo(t, b, 9, thing{1, 4, 3}, thing{2, 6, 4})
	givesTo(t, a, 9, thing{2, 8, 7})
	putIs(t, b, thing{2, 1, 1}, true)
	noneAt(t, a, 9)
}

// P19.1, P19.2: every way to go four steps with two tasks, two moments and two
// numbers of cycles.
func TestEverySmallWay(t *testing.T) {
	var steps []func(*testing.T, *Latch, *plain)
	for task := range 2 {
		for at := range 2 {
			for cycles := range 2 {
				steps = append(steps, func(t *testing.T, l *Latch, p *plain) { puts(t, l, p, thing{task, at, cycles}) })
			}
		}
	}
	for now := -1; now < 2; now++ {
		steps = append(steps, func(t *testing.T, l *Latch, p *plain) { takes(t, l, p, now) })
	}
	kinds := len(steps)
	for way := range kinds * kinds * kinds * kinds {
		l, p := New(), &plain{}
		for rest, n := way, 0; n < 4; rest, n = rest/kinds, n+1 {
			steps[rest%kinds](t, l, p)
			holds(t, l, p, -1, 0, 1, 2)
		}
		for takes(t, l, p, 1) {
			holds(t, l, p, -1, 0, 1, 2)
		}
	}
}

// drawn is how the numbers of a long run are drawn.
type drawn struct {
	name                string
	tasks, moments, now func() int
	cycles              func() int
}

// draws are runs with few tasks and few moments, with many, and with any ints.
func draws(r *rand.Rand) []drawn {
	around := func(middle, spread int) func() int {
		return func() int { return middle - spread + r.IntN(2*spread+1) }
	}
	anyInt := func() int { return int(r.Uint64()) }
	end := func() int { return ends[r.IntN(len(ends))] }
	some := func() int {
		switch r.IntN(3) {
		case 0:
			return anyInt()
		case 1:
			return end()
		}
		return around(0, 3)()
	}
	return []drawn{
		{"few tasks, few moments", around(0, 2), around(0, 3), around(-1, 4), around(0, 9)},
		{"few tasks, any moments", around(0, 4), anyInt, anyInt, anyInt},
		{"many tasks, few moments", around(0, 60), around(7, 2), around(5, 4), around(50, 50)},
		{"many tasks, many moments", around(0, 300), around(0, 1000), around(-900, 400), anyInt},
		{"six tasks within a horizon", func() int { return r.IntN(api.MaxTasks) }, func() int { return r.IntN(50) }, func() int { return r.IntN(50) }, func() int { return r.IntN(api.MaxCycles) }},
		{"the ends", end, end, end, end},
		{"some", some, some, some, some},
	}
}

// counts are how often each kind of answer was held.
type counts struct{ put, refused, came, none, emptied int }

// P19.1, P19.2: many drawn calls of all kinds, held against the plain list.
func TestManyDrawn(t *testing.T) {
	r := rand.New(rand.NewPCG(19, 1))
	for _, d := range draws(r) {
		t.Run(d.name, func(t *testing.T) {
			l, p, n := New(), &plain{}, counts{}
			for range 6000 {
				switch x, kind := (thing{d.tasks(), d.moments(), d.cycles()}), r.IntN(500); {
				case kind == 0:
					for takes(t, l, p, math.MaxInt) {
						n.came++
					}
					n.emptied++
				case kind < 260:
					if puts(t, l, p, x) {
						n.put++
					} else {
						n.refused++
					}
				case takes(t, l, p, d.now()):
					n.came++
				default:
					n.none++
				}
				holds(t, l, p, d.tasks(), d.tasks())
			}
			if n.put < 400 || n.refused < 400 || n.came < 400 || n.none < 100 || n.emptied < 3 {
				t.Errorf("too few of a kind: %+v", n)
			}
		})
	}
}

// told is all that one call answers.
type told struct {
	thing
	ok    bool
	count int
}

// R5: the same calls, done again from the beginning, have the same answers,
// also while another latch is used between them.
func TestManyAgain(t *testing.T) {
	run := func(between bool) []told {
		r, other := rand.New(rand.NewPCG(19, 2)), New()
		l := New()
		var answers []told
		for i := range 4000 {
			x, now := thing{r.IntN(40), r.IntN(30), r.IntN(9)}, r.IntN(30)
			if between {
				other.Put(i%40, 29-i%30, i)
				other.Next(i % 30)
			}
			var a told
			switch i % 4 {
			case 0, 1:
				a.ok = l.Put(x.task, x.at, x.cycles)
			case 2:
				a.task, a.at, a.cycles, a.ok = l.Next(now)
			case 3:
				a.ok = l.Waits(x.task)
			}
			a.count = l.Len()
			answers = append(answers, a)
		}
		return answers
	}
	first := run(false)
	for range 3 {
		if !slices.Equal(run(false), first) || !slices.Equal(run(true), first) {
			t.Fatal("other answers")
		}
	}
}

// R5: of what has come nothing is kept, and of a refused Put nothing either.
func TestNothingKept(t *testing.T) {
	l := New()
	for i := range 200 {
		l.Put(i%70, i%13, i)
		if len(l.cycles) != l.Len() {
			t.Fatalf("the cycles of %d are known, of %d that wait", len(l.cycles), l.Len())
		}
	}
	for range 40 {
		l.Next(10)
	}
	if l.Len() != 30 || len(l.cycles) != 30 {
		t.Errorf("the cycles of %d are known, of %d that wait", len(l.cycles), l.Len())
	}
	for range 40 {
		l.Next(12)
	}
	if l.Len() != 0 || len(l.cycles) != 0 {
		t.Errorf("the cycles of %d are known, of %d that wait", len(l.cycles), l.Len())
	}
}
