package locks

import (
	"fmt"
	"math"
	"math/rand/v2"
	"reflect"
	"slices"
	"testing"

	"dormouse/api"
)

// plain is what semaphores have to be, as a list in order, gone through by
// loops alone.
type plain struct{ list []Held }

func (p *plain) take(task, sem, cycles int) api.Errno {
	for _, h := range p.list {
		if h.Sem == sem {
			return api.ErrLock
		}
	}
	p.list = append(p.list, Held{task, sem, cycles})
	return api.OK
}

func (p *plain) give(task, sem int) api.Errno {
	last := -1
	for i, h := range p.list {
		if h.Task == task {
			last = i
		}
	}
	if last == -1 || p.list[last].Sem != sem {
		return api.ErrLock
	}
	p.list = append(p.list[:last:last], p.list[last+1:]...)
	return api.OK
}

func (p *plain) free(task int) {
	var rest []Held
	for _, h := range p.list {
		if h.Task != task {
			rest = append(rest, h)
		}
	}
	p.list = rest
}

func (p *plain) spend(task int) {
	var all []Held
	for _, h := range p.list {
		if h.Task == task {
			h.Left--
		}
		all = append(all, h)
	}
	p.list = all
}

func (p *plain) over(task int) bool {
	least := math.MaxInt
	for _, h := range p.list {
		if h.Task == task && h.Left < least {
			least = h.Left
		}
	}
	return least <= 0
}

func (p *plain) ceiling(tasks []api.Task) int {
	least := 1 << 40
	for _, h := range p.list {
		for _, t := range tasks {
			for sem, cycles := range t.Sec {
				if sem == h.Sem && cycles > 0 && t.Period < least {
					least = t.Period
				}
			}
		}
	}
	return least
}

// ends are the ends of an int, and what is around 0.
var ends = []int{math.MinInt, math.MinInt + 1, -9, -1, 0, 1, 9, math.MaxInt - 1, math.MaxInt}

// edges are cycles at the ends of the chapter's bracket, and around 0.
var edges = []int{-1 << 30, -1<<30 + 1, -2, -1, 0, 1, 2, 1<<30 - 1, 1 << 30}

// built is semaphores that were taken in that order.
func built(t *testing.T, held ...Held) *Locks {
	t.Helper()
	l := New()
	for _, h := range held {
		takeIs(t, l, h, api.OK)
	}
	return l
}

// takeIs holds the answer of Take against what is wanted.
func takeIs(t *testing.T, l *Locks, h Held, want api.Errno) {
	t.Helper()
	if got := l.Take(h.Task, h.Sem, h.Left); got != want {
		t.Fatalf("Take(%d, %d, %d) is %d, not %d", h.Task, h.Sem, h.Left, got, want)
	}
}

// giveIs holds the answer of Give against what is wanted.
func giveIs(t *testing.T, l *Locks, task, sem int, want api.Errno) {
	t.Helper()
	if got := l.Give(task, sem); got != want {
		t.Fatalf("Give(%d, %d) is %d, not %d", task, sem, got, want)
	}
}

// overIs holds the answer of Over against what is wanted.
func overIs(t *testing.T, l *Locks, task int, want bool) {
	t.Helper()
	if got := l.Over(task); got != want {
		t.Fatalf("Over(%d) is %v, not %v", task, got, want)
	}
}

// ceilingIs holds the answer of Ceiling against what is wanted.
func ceilingIs(t *testing.T, l *Locks, tasks []api.Task, want int) {
	t.Helper()
	if got := l.Ceiling(tasks); got != want {
		t.Fatalf("Ceiling(%v) is %d, not %d", tasks, got, want)
	}
}

// some are tasks by whose Ceiling one semaphore can be told from another: of
// the semaphore s alone it is 100 - s.
var some = []api.Task{
	{Period: 100, Sec: []int{1}},
	{Period: 99, Sec: []int{0, 2}},
	{Period: 98, Sec: []int{0, 0, 3}},
	{Period: 97, Sec: []int{0, 0, 0, 4}},
}

// looks holds all that can be looked at against what is wanted, and so twice:
// to look changes nothing. Who is told a list may write into it, its spare
// room included: it does so here.
func looks(t *testing.T, l *Locks, p *plain) {
	t.Helper()
	for range 2 {
		got := l.List()
		if !slices.Equal(got, p.list) {
			t.Fatalf("List is %v, not %v", got, p.list)
		}
		got = got[:cap(got)]
		for i := range got {
			got[i] = Held{Task: -i, Sem: i + 7, Left: -9}
		}
		for _, h := range p.list {
			overIs(t, l, h.Task, p.over(h.Task))
		}
		for task := -1; task < 5; task++ {
			overIs(t, l, task, p.over(task))
		}
		ceilingIs(t, l, some, p.ceiling(some))
	}
}

// has holds semaphores against what has to be held, in its order.
func has(t *testing.T, l *Locks, want ...Held) {
	t.Helper()
	looks(t, l, &plain{want})
}

// without is a list but for the one at that place.
func without(list []Held, place int) []Held {
	return slices.Delete(slices.Clone(list), place, place+1)
}

// P13.1: the chapter's first example.
func TestExampleOfOrder(t *testing.T) {
	l := built(t, Held{4, 0, 5}, Held{4, 1, 3})
	giveIs(t, l, 4, 0, api.ErrLock)
	has(t, l, Held{4, 0, 5}, Held{4, 1, 3})
	giveIs(t, l, 4, 1, api.OK)
	has(t, l, Held{4, 0, 5})
	giveIs(t, l, 4, 0, api.OK)
	has(t, l)
}

// P13.2: the chapter's second example.
func TestExampleOfSpend(t *testing.T) {
	l := built(t, Held{4, 0, 2})
	overIs(t, l, 4, false)
	l.Spend(4)
	overIs(t, l, 4, false)
	has(t, l, Held{4, 0, 1})
	l.Spend(4)
	overIs(t, l, 4, true)
	has(t, l, Held{4, 0, 0})
}

// P13.1 to P13.3: nobody holds anything, as New has it, as nobody has it, and
// behind all has been given or freed.
func TestNothingIsHeld(t *testing.T) {
	given, freed := built(t, Held{4, 0, 0}), built(t, Held{4, 0, 0}, Held{2, 1, -5}, Held{4, 2, 7})
	giveIs(t, given, 4, 0, api.OK)
	freed.Free(4)
	freed.Free(2)
	for i, l := range []*Locks{New(), {}, given, freed} {
		if l == nil {
			t.Fatalf("%d is nil", i)
		}
		has(t, l)
		for _, task := range append([]int{2, 4}, ends...) {
			overIs(t, l, task, false)
			giveIs(t, l, task, 0, api.ErrLock)
			l.Spend(task)
			l.Free(task)
		}
		has(t, l)
		takeIs(t, l, Held{4, 0, 2}, api.OK)
		has(t, l, Held{4, 0, 2})
	}
}

// P13.1: what is held of one Locks has nothing to do with another one.
func TestTwoLocks(t *testing.T) {
	a, b := New(), New()
	if a == b {
		t.Fatal("New is the same twice")
	}
	takeIs(t, a, Held{1, 0, 5}, api.OK)
	takeIs(t, b, Held{2, 0, 6}, api.OK)
	takeIs(t, b, Held{1, 1, 7}, api.OK)
	a.Spend(2)
	b.Spend(1)
	has(t, a, Held{1, 0, 5})
	has(t, b, Held{2, 0, 6}, Held{1, 1, 6})
	b.Free(1)
	has(t, a, Held{1, 0, 5})
	has(t, b, Held{2, 0, 6})
}

// P13.1: Take of a semaphore that is free, that the task itself holds, that
// another one holds, that was given, and that was freed.
func TestTake(t *testing.T) {
	l := New()
	takeIs(t, l, Held{1, 0, 5}, api.OK)
	has(t, l, Held{1, 0, 5})
	takeIs(t, l, Held{1, 0, 5}, api.ErrLock)
	takeIs(t, l, Held{1, 0, 6}, api.ErrLock)
	takeIs(t, l, Held{2, 0, 5}, api.ErrLock)
	takeIs(t, l, Held{2, 0, 6}, api.ErrLock)
	has(t, l, Held{1, 0, 5})
	giveIs(t, l, 1, 0, api.OK)
	takeIs(t, l, Held{2, 0, 6}, api.OK)
	has(t, l, Held{2, 0, 6})
	takeIs(t, l, Held{1, 0, 7}, api.ErrLock)
	l.Free(2)
	takeIs(t, l, Held{1, 0, 7}, api.OK)
	has(t, l, Held{1, 0, 7})
	giveIs(t, l, 1, 0, api.OK)
	takeIs(t, l, Held{1, 0, 8}, api.OK)
	has(t, l, Held{1, 0, 8})
}

// P13.1: of many that are held each is refused, whoever asks for it, the first
// one, the last one and those between; all others are free.
func TestTakeOfMany(t *testing.T) {
	all := []Held{{1, 6, 5}, {2, 3, 6}, {1, 0, 7}, {3, 9, 8}, {2, 1, 9}}
	l := built(t, all...)
	for _, h := range all {
		for task := range 5 {
			takeIs(t, l, Held{task, h.Sem, 4}, api.ErrLock)
			has(t, l, all...)
		}
	}
	for _, sem := range []int{2, 4, 5, 7, 8, 10} {
		takeIs(t, l, Held{4, sem, sem}, api.OK)
		all = append(all, Held{4, sem, sem})
		has(t, l, all...)
	}
}

// P13.1: a semaphore whose cycles are spent, and whose holder is Over, is held
// all the same.
func TestTakeOfOver(t *testing.T) {
	for _, cycles := range edges {
		l := built(t, Held{1, 0, cycles})
		l.Spend(1)
		takeIs(t, l, Held{2, 0, 5}, api.ErrLock)
		takeIs(t, l, Held{1, 0, 5}, api.ErrLock)
		has(t, l, Held{1, 0, cycles - 1})
		giveIs(t, l, 2, 0, api.ErrLock)
		giveIs(t, l, 1, 0, api.OK)
		takeIs(t, l, Held{2, 0, 5}, api.OK)
		has(t, l, Held{2, 0, 5})
	}
}

// P13.1: tasks and semaphores at both ends of an int and around 0, of which
// each is another one.
func TestTakeAtEnds(t *testing.T) {
	for _, task := range ends {
		for _, sem := range ends {
			l, p := New(), &plain{}
			for _, h := range []Held{{task, sem, 5}, {5, 6, 7}} {
				takeIs(t, l, h, p.take(h.Task, h.Sem, h.Left))
			}
			for _, other := range ends {
				takeIs(t, l, Held{other, sem, 1}, api.ErrLock)
				if other != task {
					giveIs(t, l, other, sem, api.ErrLock)
				}
				if other != sem {
					giveIs(t, l, task, other, api.ErrLock)
				}
				overIs(t, l, other, false)
			}
			looks(t, l, p)
			for _, other := range ends {
				takeIs(t, l, Held{task, other, 3}, p.take(task, other, 3))
			}
			looks(t, l, p)
			l.Spend(task)
			p.spend(task)
			looks(t, l, p)
			for len(p.list) > 2 {
				last := p.list[len(p.list)-1].Sem
				giveIs(t, l, task, last, p.give(task, last))
				looks(t, l, p)
			}
			giveIs(t, l, task, sem, api.OK)
			has(t, l, Held{5, 6, 7})
		}
	}
}

// P13.1, P13.2: Left is the cycles, at the bracket's ends and around 0, and one
// less behind a Spend.
func TestCycles(t *testing.T) {
	for _, cycles := range edges {
		l := built(t, Held{3, 1, cycles})
		has(t, l, Held{3, 1, cycles})
		overIs(t, l, 3, cycles <= 0)
		l.Spend(3)
		has(t, l, Held{3, 1, cycles - 1})
		overIs(t, l, 3, cycles <= 1)
	}
}

// P13.1: Give by a task that holds nothing, of what is not held, of what
// another one holds, of what it took ahead of the last one, and of the last
// one.
func TestGive(t *testing.T) {
	all := []Held{{1, 5, 10}, {2, 6, 20}, {1, 7, 30}, {2, 8, 40}, {1, 9, 50}, {3, 4, 60}}
	l := built(t, all...)
	for task := range 5 {
		for sem := -1; sem < 11; sem++ {
			last := task == 1 && sem == 9 || task == 2 && sem == 8 || task == 3 && sem == 4
			if !last {
				giveIs(t, l, task, sem, api.ErrLock)
				has(t, l, all...)
			}
		}
	}
	giveIs(t, l, 1, 9, api.OK)
	all = without(all, 4)
	has(t, l, all...)
	giveIs(t, l, 1, 9, api.ErrLock)
	giveIs(t, l, 1, 5, api.ErrLock)
	giveIs(t, l, 1, 7, api.OK)
	all = without(all, 2)
	has(t, l, all...)
	giveIs(t, l, 2, 6, api.ErrLock)
	giveIs(t, l, 1, 5, api.OK)
	has(t, l, Held{2, 6, 20}, Held{2, 8, 40}, Held{3, 4, 60})
	giveIs(t, l, 1, 5, api.ErrLock)
	giveIs(t, l, 3, 4, api.OK)
	giveIs(t, l, 2, 8, api.OK)
	giveIs(t, l, 2, 6, api.OK)
	has(t, l)
}

// P13.1: the last one is that which was taken last, whatever its number is,
// and how much is left of it.
func TestGiveHangsOnOrderAlone(t *testing.T) {
	for _, sems := range [][]int{{0, 1, 2}, {0, 2, 1}, {1, 0, 2}, {1, 2, 0}, {2, 0, 1}, {2, 1, 0}} {
		for _, lefts := range [][]int{{1, 2, 3}, {3, 2, 1}, {0, 0, 0}, {-4, 5, -6}} {
			l := New()
			for i, sem := range sems {
				takeIs(t, l, Held{7, sem, lefts[i]}, api.OK)
			}
			for last := 2; last >= 0; last-- {
				for _, sem := range sems[:last] {
					giveIs(t, l, 7, sem, api.ErrLock)
				}
				giveIs(t, l, 7, sems[last], api.OK)
				giveIs(t, l, 7, sems[last], api.ErrLock)
			}
			has(t, l)
		}
	}
}

// P13.1: what was given and is taken again stands last, and is what its holder
// took last.
func TestTakenAgainIsLast(t *testing.T) {
	l := built(t, Held{1, 0, 1}, Held{2, 1, 2}, Held{2, 2, 3}, Held{1, 3, 4})
	giveIs(t, l, 2, 2, api.OK)
	takeIs(t, l, Held{1, 2, 5}, api.OK)
	has(t, l, Held{1, 0, 1}, Held{2, 1, 2}, Held{1, 3, 4}, Held{1, 2, 5})
	giveIs(t, l, 1, 3, api.ErrLock)
	giveIs(t, l, 2, 1, api.OK)
	takeIs(t, l, Held{2, 1, 6}, api.OK)
	has(t, l, Held{1, 0, 1}, Held{1, 3, 4}, Held{1, 2, 5}, Held{2, 1, 6})
	giveIs(t, l, 1, 2, api.OK)
	giveIs(t, l, 1, 3, api.OK)
	takeIs(t, l, Held{1, 3, 7}, api.OK)
	has(t, l, Held{1, 0, 1}, Held{2, 1, 6}, Held{1, 3, 7})
}

// P13.1: Free of a task that holds none, one, and many with others' in
// between: all others stay, in their order, with their Left.
func TestFree(t *testing.T) {
	all := []Held{{2, 3, 10}, {1, 5, 20}, {2, 0, -30}, {3, 6, 0}, {2, 4, 50}, {1, 1, 60}, {2, 9, 70}}
	for _, c := range []struct {
		task int
		want []Held
	}{
		{0, all},
		{4, all},
		{-2, all},
		{9, all},
		{3, without(all, 3)},
		{1, []Held{{2, 3, 10}, {2, 0, -30}, {3, 6, 0}, {2, 4, 50}, {2, 9, 70}}},
		{2, []Held{{1, 5, 20}, {3, 6, 0}, {1, 1, 60}}},
	} {
		l := built(t, all...)
		l.Free(c.task)
		has(t, l, c.want...)
		overIs(t, l, c.task, false)
		for _, h := range all {
			if h.Task == c.task {
				giveIs(t, l, h.Task, h.Sem, api.ErrLock)
			}
		}
		l.Free(c.task)
		has(t, l, c.want...)
		for _, h := range all {
			want := api.ErrLock
			if h.Task == c.task {
				want = api.OK
			}
			takeIs(t, l, Held{8, h.Sem, 5}, want)
		}
	}
}

// P13.1: Free of all, in every order of the tasks, and of one who holds all.
func TestFreeOfAll(t *testing.T) {
	all := []Held{{2, 3, 10}, {1, 5, 20}, {2, 0, -30}, {3, 6, 0}, {1, 4, 50}}
	for _, order := range [][]int{{1, 2, 3}, {1, 3, 2}, {2, 1, 3}, {2, 3, 1}, {3, 1, 2}, {3, 2, 1}} {
		l, p := built(t, all...), &plain{all}
		for _, task := range order {
			l.Free(task)
			p.free(task)
			looks(t, l, p)
		}
		has(t, l)
	}
	l := built(t, Held{5, 0, 1}, Held{5, 1, 2}, Held{5, 2, 3})
	l.Free(5)
	has(t, l)
}

// P13.1, P13.2: Free, Spend and Over of tasks with numbers at their ends.
func TestTasksAtEnds(t *testing.T) {
	l, p := New(), &plain{}
	for i, task := range ends {
		takeIs(t, l, Held{task, i, i}, p.take(task, i, i))
		takeIs(t, l, Held{task, 20 + i, 9}, p.take(task, 20+i, 9))
	}
	looks(t, l, p)
	for _, task := range ends {
		l.Spend(task)
		p.spend(task)
		looks(t, l, p)
		l.Free(task)
		p.free(task)
		looks(t, l, p)
	}
	has(t, l)
}

// P13.2: Spend of a task that holds none, one and many, with others' Left as it
// was.
func TestSpend(t *testing.T) {
	l := built(t, Held{1, 0, 5}, Held{2, 1, 5}, Held{1, 2, 1}, Held{3, 3, 5}, Held{1, 4, 0})
	l.Spend(0)
	l.Spend(5)
	l.Spend(-1)
	has(t, l, Held{1, 0, 5}, Held{2, 1, 5}, Held{1, 2, 1}, Held{3, 3, 5}, Held{1, 4, 0})
	l.Spend(2)
	has(t, l, Held{1, 0, 5}, Held{2, 1, 4}, Held{1, 2, 1}, Held{3, 3, 5}, Held{1, 4, 0})
	l.Spend(1)
	has(t, l, Held{1, 0, 4}, Held{2, 1, 4}, Held{1, 2, 0}, Held{3, 3, 5}, Held{1, 4, -1})
	l.Spend(1)
	has(t, l, Held{1, 0, 3}, Held{2, 1, 4}, Held{1, 2, -1}, Held{3, 3, 5}, Held{1, 4, -2})
	l.Spend(3)
	has(t, l, Held{1, 0, 3}, Held{2, 1, 4}, Held{1, 2, -1}, Held{3, 3, 4}, Held{1, 4, -2})
}

// P13.2: what is given and taken again has its cycles whole.
func TestSpendEndsWithGive(t *testing.T) {
	l := built(t, Held{1, 0, 5}, Held{1, 1, 3})
	l.Spend(1)
	l.Spend(1)
	giveIs(t, l, 1, 1, api.OK)
	l.Spend(1)
	takeIs(t, l, Held{1, 1, 3}, api.OK)
	has(t, l, Held{1, 0, 2}, Held{1, 1, 3})
	l.Free(1)
	l.Spend(1)
	takeIs(t, l, Held{1, 0, 5}, api.OK)
	has(t, l, Held{1, 0, 5})
}

// P13.2: many Spends, one by one, far below 0.
func TestSpendLong(t *testing.T) {
	l, n := built(t, Held{1, 0, 1000}, Held{2, 1, -1 << 30}, Held{1, 2, 1 << 30}), 1<<12
	for i := range n {
		overIs(t, l, 1, i >= 1000)
		l.Spend(1)
		l.Spend(2)
	}
	has(t, l, Held{1, 0, 1000 - n}, Held{2, 1, -1<<30 - n}, Held{1, 2, 1<<30 - n})
}

// P13.2: Over where the least Left is above 0, 0 and below 0, of the first one
// held, of the last one and of one between.
func TestOver(t *testing.T) {
	for place := range 5 {
		for _, left := range edges {
			l := New()
			for sem := range 5 {
				h := Held{6, sem, 1 << 20}
				if sem == place {
					h.Left = left
				}
				takeIs(t, l, h, api.OK)
			}
			overIs(t, l, 6, left <= 0)
			overIs(t, l, 5, false)
			overIs(t, l, place, false)
		}
	}
}

// P13.2: the others' Left, be it 0 or below, does not make a task Over, nor
// does what it has given.
func TestOverOfOthers(t *testing.T) {
	l := built(t, Held{1, 0, 0}, Held{2, 1, 3}, Held{3, 2, -7}, Held{2, 3, 1})
	for task, want := range []bool{false, true, false, true, false} {
		overIs(t, l, task, want)
	}
	l.Spend(2)
	overIs(t, l, 2, true)
	giveIs(t, l, 2, 3, api.OK)
	overIs(t, l, 2, false)
	l.Free(1)
	overIs(t, l, 1, false)
	overIs(t, l, 2, false)
	overIs(t, l, 3, true)
	has(t, l, Held{2, 1, 2}, Held{3, 2, -7})
}

// P13.3: Ceiling where none is held, where one is, and where many are.
func TestCeiling(t *testing.T) {
	tasks := []api.Task{
		{Period: 50, Cycles: 9, Sec: []int{3, 0, 1}},
		{Period: 20, Cycles: 9, Sec: []int{0, 2}},
		{Period: 30, Cycles: 9, Sec: []int{4, 0, -5}},
		{Period: 10, Cycles: 9},
		{Period: 40, Cycles: 9, Sec: []int{0, 1, 6}},
		{Period: 15, Cycles: 9, Sec: []int{0, 0, 0, 0}},
	}
	single := []int{30, 20, 40, api.Never, api.Never, api.Never}
	ceilingIs(t, New(), tasks, api.Never)
	for a, least := range single {
		ceilingIs(t, built(t, Held{7, a, 5}), tasks, least)
		for b, other := range single {
			if a == b {
				continue
			}
			l := built(t, Held{7, a, 5}, Held{8, b, -5})
			ceilingIs(t, l, tasks, min(least, other))
			giveIs(t, l, 8, b, api.OK)
			ceilingIs(t, l, tasks, least)
			takeIs(t, l, Held{7, b, 0}, api.OK)
			ceilingIs(t, l, tasks, min(least, other))
			l.Free(7)
			ceilingIs(t, l, tasks, api.Never)
		}
	}
	l := New()
	order := []int{3, 2, 0, 1}
	for i, want := range []int{api.Never, 40, 30, 20} {
		takeIs(t, l, Held{0, order[i], 1}, api.OK)
		ceilingIs(t, l, tasks, want)
	}
	for i, want := range []int{30, 40, api.Never, api.Never} {
		giveIs(t, l, 0, order[3-i], api.OK)
		ceilingIs(t, l, tasks, want)
	}
}

// P13.3: a refused Take, and what is only spent, has no share in the Ceiling.
func TestCeilingOfRefused(t *testing.T) {
	l := built(t, Held{1, 3, 2})
	ceilingIs(t, l, some, 97)
	takeIs(t, l, Held{2, 3, 2}, api.ErrLock)
	giveIs(t, l, 2, 3, api.ErrLock)
	l.Spend(1)
	l.Spend(1)
	ceilingIs(t, l, some, 97)
	ceilingIs(t, l, some[:3], api.Never)
	takeIs(t, l, Held{2, 0, 2}, api.OK)
	ceilingIs(t, l, some[:3], 100)
}

// P13.3: the Ceiling hangs on the tasks that are handed in, not on who holds
// the semaphore, nor on those of a call before.
func TestCeilingOfOtherTasks(t *testing.T) {
	for _, holder := range ends {
		l := built(t, Held{holder, 1, 2}, Held{holder, 0, 2})
		for range 2 {
			ceilingIs(t, l, nil, api.Never)
			ceilingIs(t, l, []api.Task{}, api.Never)
			ceilingIs(t, l, some, 99)
			ceilingIs(t, l, some[:1], 100)
			ceilingIs(t, l, some[2:], api.Never)
			ceilingIs(t, l, []api.Task{{Period: 3}, {Period: 4, Sec: []int{0, 0, 9}}}, api.Never)
		}
	}
}

// P13.3: Periods of 0 and below, at both ends of an int, and around Never.
func TestCeilingOfPeriods(t *testing.T) {
	periods := append([]int{api.Never - 1, api.Never, api.Never + 1}, ends...)
	l := built(t, Held{1, 2, 2}, Held{1, 0, 2})
	for _, a := range periods {
		for _, b := range periods {
			tasks := []api.Task{
				{Period: a, Sec: []int{1}},
				{Period: math.MinInt, Sec: []int{0, 5, 0}},
				{Period: b, Sec: []int{0, 1, math.MaxInt}},
			}
			ceilingIs(t, l, tasks, min(a, b, api.Never))
			ceilingIs(t, l, tasks[1:], min(b, api.Never))
			ceilingIs(t, l, tasks[:2], min(a, api.Never))
			ceilingIs(t, l, tasks[1:2], api.Never)
		}
	}
}

// P13.3: numbers in Sec at both ends of an int: those above 0 alone count.
func TestCeilingOfSec(t *testing.T) {
	l := built(t, Held{1, 1, 2})
	for _, cycles := range ends {
		want := api.Never
		if cycles > 0 {
			want = 7
		}
		ceilingIs(t, l, []api.Task{{Period: 7, Sec: []int{3, cycles, 3}}}, want)
	}
}

// P13.3: semaphores below 0, or beyond each task's Sec, that are held.
func TestCeilingOfNoPlace(t *testing.T) {
	l := New()
	for i, sem := range []int{-1, math.MinInt, -9, 4, 9, math.MaxInt} {
		takeIs(t, l, Held{i, sem, 2}, api.OK)
		ceilingIs(t, l, some, api.Never)
	}
	takeIs(t, l, Held{3, 2, 2}, api.OK)
	ceilingIs(t, l, some, 98)
	takeIs(t, l, Held{9, 3, 2}, api.OK)
	ceilingIs(t, l, some, 97)
}

// P13.4: each call of a nil *Locks.
func TestNil(t *testing.T) {
	var l *Locks
	for range 2 {
		for _, a := range ends {
			for _, b := range ends {
				takeIs(t, l, Held{a, b, 2}, api.ErrArg)
				giveIs(t, l, a, b, api.ErrArg)
			}
			for _, cycles := range edges {
				takeIs(t, l, Held{a, 0, cycles}, api.ErrArg)
			}
			l.Spend(a)
			l.Free(a)
			overIs(t, l, a, false)
			if list := l.List(); len(list) != 0 {
				t.Fatalf("List is %v", list)
			}
			ceilingIs(t, l, some, api.Never)
			ceilingIs(t, l, []api.Task{{Period: a, Sec: []int{1, 1}}}, api.Never)
			ceilingIs(t, l, nil, api.Never)
		}
	}
}

// R6: a refused call leaves all that can be looked at as it was, and what
// comes behind it goes as if it had not been made.
func TestRefused(t *testing.T) {
	all := []Held{{1, 0, 3}, {2, 1, 1}, {1, 2, 5}}
	refusals := []func(*Locks) api.Errno{
		func(l *Locks) api.Errno { return l.Take(1, 0, 9) },
		func(l *Locks) api.Errno { return l.Take(3, 0, -9) },
		func(l *Locks) api.Errno { return l.Take(2, 2, 0) },
		func(l *Locks) api.Errno { return l.Give(1, 0) },
		func(l *Locks) api.Errno { return l.Give(1, 1) },
		func(l *Locks) api.Errno { return l.Give(2, 2) },
		func(l *Locks) api.Errno { return l.Give(3, 0) },
		func(l *Locks) api.Errno { return l.Give(1, 7) },
	}
	for i, refused := range refusals {
		l := built(t, all...)
		told := l.List()
		for range 3 {
			if got := refused(l); got != api.ErrLock {
				t.Fatalf("refusal %d is %d", i, got)
			}
			has(t, l, all...)
		}
		if !slices.Equal(told, all) {
			t.Fatalf("refusal %d has changed a told list: %v", i, told)
		}
		l.Spend(1)
		giveIs(t, l, 1, 2, api.OK)
		takeIs(t, l, Held{3, 7, 8}, api.OK)
		has(t, l, Held{1, 0, 2}, Held{2, 1, 1}, Held{3, 7, 8})
	}
}

// R4: a list that was told stays as it was when more is taken, spent, given and
// freed, and when another one is told and written into.
func TestToldListsStay(t *testing.T) {
	l := built(t, Held{1, 0, 3}, Held{2, 1, 4}, Held{1, 2, 5}, Held{3, 3, 6})
	told := l.List()
	was := slices.Clone(told)
	stays := func(what string) {
		t.Helper()
		if !slices.Equal(told, was) {
			t.Fatalf("behind %s the told list is %v, not %v", what, told, was)
		}
	}
	l.Spend(1)
	stays("Spend")
	takeIs(t, l, Held{2, 4, 7}, api.OK)
	stays("Take")
	giveIs(t, l, 1, 2, api.OK)
	stays("Give")
	l.Free(2)
	stays("Free")
	takeIs(t, l, Held{5, 9, 9}, api.OK)
	takeIs(t, l, Held{5, 8, 9}, api.OK)
	stays("Take behind Free")
	other := l.List()
	for i := range other {
		other[i] = Held{9, 9, 9}
	}
	stays("writing into another list")
	_ = append(told, Held{7, 7, 7})
	_ = append(told[:1], Held{7, 7, 7})
	has(t, l, Held{1, 0, 2}, Held{3, 3, 6}, Held{5, 9, 9}, Held{5, 8, 9})
}

// R4: writing into a list that was told, its spare room included, changes
// neither the semaphores nor another list, before and behind more that is
// taken.
func TestWritingIntoLists(t *testing.T) {
	for n := range 20 {
		l, p := New(), &plain{}
		for i := range n {
			takeIs(t, l, Held{i % 3, i, i}, p.take(i%3, i, i))
		}
		a, b := l.List(), l.List()
		takeIs(t, l, Held{1, n, n}, p.take(1, n, n))
		for i := range a[:cap(a)] {
			a[:cap(a)][i] = Held{-1, -1, -1}
		}
		if !slices.Equal(b, p.list[:n]) {
			t.Fatalf("writing into one list has changed another one: %v", b)
		}
		looks(t, l, p)
	}
}

// laidTasks are tasks whose list, and whose lists, have spare room with
// numbers in it.
func laidTasks() []api.Task {
	sec := [][]int{{1, 2, 7, 7}, {0, 3, 1, 7, 7}, {-1, 0, 0, 4}, {9, 9}}
	devs := [][]int{{0, 2, 8}, {1, 8, 8}, {8}, {8}}
	tasks := make([]api.Task, 4, 6)
	for i := range tasks {
		tasks[i] = api.Task{Period: 10 - i, Cycles: 4, Sec: sec[i][:len(sec[i])-2], Devs: devs[i][:len(devs[i])-1]}
	}
	spare := tasks[:6]
	spare[4] = api.Task{Period: 1, Cycles: 1, Sec: []int{1, 1, 1}}
	spare[5] = api.Task{Period: 2, Cycles: 2, Devs: []int{5}}
	return tasks
}

// whole is the tasks and all their lists, spare room included, as a list of
// numbers.
func whole(tasks []api.Task) []int {
	var all []int
	for _, x := range tasks[:cap(tasks)] {
		all = append(all, x.Period, x.Cycles, len(x.Sec), len(x.Devs))
		all = append(all, x.Sec[:cap(x.Sec)]...)
		all = append(all, x.Devs[:cap(x.Devs)]...)
	}
	return append(all, len(tasks))
}

// R4: behind Ceiling the tasks and all their lists are as they were.
func TestCeilingLeavesTasks(t *testing.T) {
	tasks := laidTasks()
	was := whole(tasks)
	l := New()
	for sem, want := range []int{10, 9, 9, 9, 9} {
		takeIs(t, l, Held{1, sem, 2}, api.OK)
		ceilingIs(t, l, tasks, want)
		if got := whole(tasks); !slices.Equal(got, was) {
			t.Fatalf("Ceiling has changed the tasks: %v, not %v", got, was)
		}
	}
	if !reflect.DeepEqual(tasks, laidTasks()) {
		t.Fatalf("Ceiling has changed the tasks: %v", tasks)
	}
}

// R4: the tasks that were handed to Ceiling are not kept: what becomes of them
// shows in no answer but of a call that has them.
func TestCeilingKeepsNoTasks(t *testing.T) {
	tasks := laidTasks()
	l := built(t, Held{1, 0, 2})
	ceilingIs(t, l, tasks, 10)
	tasks[0].Period = 3
	ceilingIs(t, l, laidTasks(), 10)
	ceilingIs(t, l, tasks, 3)
	tasks[0].Sec[0] = 0
	ceilingIs(t, l, laidTasks(), 10)
	ceilingIs(t, l, tasks, api.Never)
	ceilingIs(t, l, nil, api.Never)
	has(t, l, Held{1, 0, 2})
}

// randomTasks are a few tasks, odd ones among them.
func randomTasks(r *rand.Rand, sems int) []api.Task {
	tasks := make([]api.Task, r.IntN(6))
	for i := range tasks {
		tasks[i].Period = r.IntN(99) - 9
		if r.IntN(20) == 0 {
			tasks[i].Period = ends[r.IntN(len(ends))]
		}
		tasks[i].Sec = make([]int, r.IntN(sems+1))
		for s := range tasks[i].Sec {
			tasks[i].Sec[s] = r.IntN(5) - 2
		}
	}
	return tasks
}

// randomCycles are few cycles, or any of the bracket's.
func randomCycles(r *rand.Rand) int {
	if r.IntN(9) == 0 {
		return edges[r.IntN(len(edges))]
	}
	return r.IntN(20) - 4
}

// randomGive is a task and a semaphore: often such as are held, and of these
// often what was taken last.
func randomGive(r *rand.Rand, p *plain, tasks, sems int) (int, int) {
	if n := len(p.list); n > 0 && r.IntN(5) > 0 {
		h := p.list[r.IntN(n)]
		if r.IntN(2) == 0 {
			return h.Task, h.Sem
		}
		for _, other := range p.list {
			if other.Task == h.Task {
				h = other
			}
		}
		return h.Task, h.Sem
	}
	return r.IntN(tasks) - 1, r.IntN(sems) - 1
}

// run does many calls on new semaphores and on a plain list that is kept in
// order, and holds one against the other behind each of them. It counts what
// it saw, and answers all that was told.
func run(t *testing.T, r *rand.Rand, seen map[string]int, steps int) []string {
	t.Helper()
	tasks, sems := 1+r.IntN(6), 1+r.IntN(12)
	l, p := New(), &plain{}
	var told []string
	for range steps {
		var got, want api.Errno
		what := ""
		switch n := r.IntN(20); {
		case n < 8:
			task, sem, cycles := r.IntN(tasks)-1, r.IntN(sems)-1, randomCycles(r)
			got, want, what = l.Take(task, sem, cycles), p.take(task, sem, cycles), "take"
		case n < 13:
			task, sem := randomGive(r, p, tasks, sems)
			got, want, what = l.Give(task, sem), p.give(task, sem), "give"
		case n < 14:
			task := r.IntN(tasks) - 1
			before := len(p.list)
			l.Free(task)
			p.free(task)
			what = fmt.Sprint("free of ", min(2, before-len(p.list)))
		default:
			task := r.IntN(tasks) - 1
			l.Spend(task)
			p.spend(task)
			what = "spend"
		}
		if got != want {
			t.Fatalf("%s is %d, not %d, at %v", what, got, want, p.list)
		}
		seen[fmt.Sprintf("%s: %d", what, want)]++
		looks(t, l, p)
		some := randomTasks(r, sems)
		ceiling := p.ceiling(some)
		ceilingIs(t, l, some, ceiling)
		task := r.IntN(tasks) - 1
		over := p.over(task)
		overIs(t, l, task, over)
		seen[fmt.Sprint("over ", over)]++
		seen[fmt.Sprint("ceiling ", ceiling < api.Never)]++
		seen[fmt.Sprint(min(len(p.list), 4), " held")]++
		told = append(told, fmt.Sprint(got, l.List(), l.Over(task), l.Ceiling(some)))
	}
	return told
}

// P13.1 to P13.3: long runs of many calls against a plain list that is kept in
// order. R5: done again, the same calls have the same answers.
func TestMany(t *testing.T) {
	seen := map[string]int{}
	for n := range uint64(150) {
		told := run(t, rand.New(rand.NewPCG(13, n)), seen, 200)
		again := run(t, rand.New(rand.NewPCG(13, n)), map[string]int{}, 200)
		if !slices.Equal(told, again) {
			t.Fatalf("run %d has other answers when it is done again", n)
		}
	}
	for _, kind := range []string{
		"take: 0", "take: 10", "give: 0", "give: 10", "spend: 0",
		"free of 0: 0", "free of 1: 0", "free of 2: 0",
		"over true", "over false", "ceiling true", "ceiling false",
		"0 held", "1 held", "2 held", "3 held", "4 held",
	} {
		if seen[kind] < 100 {
			t.Errorf("only %d of %q", seen[kind], kind)
		}
	}
}

// P13.1, P13.2: one long run over hundreds of semaphores of a few tasks, looked
// at now and then.
func TestLongRun(t *testing.T) {
	r := rand.New(rand.NewPCG(13, 1000))
	l, p := New(), &plain{}
	for step := range 6000 {
		task, sem := r.IntN(20), r.IntN(600)
		switch n := r.IntN(200); {
		case n == 0:
			l.Free(task)
			p.free(task)
		case n < 20:
			l.Spend(task)
			p.spend(task)
		case n < 60:
			task, sem = randomGive(r, p, 20, 600)
			giveIs(t, l, task, sem, p.give(task, sem))
		default:
			takeIs(t, l, Held{task, sem, n}, p.take(task, sem, n))
		}
		overIs(t, l, task, p.over(task))
		if step%500 == 0 {
			looks(t, l, p)
		}
	}
	looks(t, l, p)
	for len(p.list) > 0 {
		h := p.list[len(p.list)-1]
		giveIs(t, l, h.Task, h.Sem, p.give(h.Task, h.Sem))
	}
	has(t, l)
}
