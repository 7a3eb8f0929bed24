package slack

import (
	"fmt"
	"math"
	"math/big"
	"math/rand/v2"
	"reflect"
	"slices"
	"testing"

	"dormouse/api"
	"dormouse/fix"
	"dormouse/locks"
	"dormouse/table"
	"dormouse/task"
)

// last is the last moment of which the chapter speaks.
const last = 1 << 21

// ask is one of the chapter's three calls.
type ask func(p api.Platform, tasks []api.Task, next []int, list []api.Job, held []locks.Held, now, at int) int

// machine is one with levels of these Ps, of which Crit is the last one, all
// semaphores and the greatest Horizon.
func machine(switching int, paces ...int) api.Platform {
	p := api.Platform{Crit: len(paces) - 1, Switch: switching, Sems: api.MaxSems, Horizon: api.MaxHorizon}
	for _, pace := range paces {
		p.Levels = append(p.Levels, api.Level{P: pace})
	}
	return p
}

// doing is a task with these numbers in Sec.
func doing(period, cycles int, sec ...int) api.Task {
	return api.Task{Period: period, Cycles: cycles, Sec: sec}
}

// due is a job with a Deadline, that has not started.
func due(number, deadline, left int) api.Job {
	return api.Job{Task: number, Deadline: deadline, Left: left}
}

// begun is a job with a Deadline, that has started.
func begun(number, deadline, left int) api.Job {
	return api.Job{Task: number, Deadline: deadline, Left: left, Started: true}
}

// bracketFault says what there is that the chapter does not speak of; nothing,
// if it speaks of all.
func bracketFault(v view, at int) string {
	moments := append([]int{v.now, at}, v.next...)
	had := map[int]int{}
	for _, j := range v.list {
		moments = append(moments, j.Release, j.Deadline)
		had[j.Task]++
		if j.Task < 0 || j.Task >= len(v.tasks) || v.tasks[j.Task].Period == 0 || had[j.Task] > 1 {
			return "a job too much"
		}
		if j.Left < 0 || j.Left > api.MaxCycles {
			return "a job's Left"
		}
	}
	for _, h := range v.held {
		if had[h.Task] == 0 || h.Left < -api.MaxCycles || h.Left > api.MaxCycles {
			return "what is held"
		}
	}
	for _, x := range v.tasks {
		none := x.Period == 0 && x.Cycles == 0 && len(x.Sec) == 0 && len(x.Devs) == 0
		if !none && task.Check(v.p, x) != api.OK {
			return "a task that may not be"
		}
	}
	if slices.Min(moments) < 0 || slices.Max(moments) > last {
		return "a moment"
	}
	if table.Check(v.p) != api.OK || len(v.tasks) > 64 || len(v.next) != len(v.tasks) {
		return "a machine that may not be, or too many tasks, or too few moments"
	}
	return ""
}

// roomy is a copy of a list, with spare room that is not empty.
func roomy[T any](list []T, filler T) []T {
	if list == nil {
		return nil
	}
	more := append(slices.Clone(list), filler, filler)
	return more[:len(list)]
}

// roomyView is a copy whose lists have spare room. What stands there would
// change the answers, if it were looked at.
func roomyView(v view) view {
	v.p.Levels = roomy(v.p.Levels, api.Level{P: 1})
	v.p.Sleeps = roomy(v.p.Sleeps, api.Sleep{Even: 77})
	v.p.Devices = roomy(v.p.Devices, api.Device{Even: 78})
	v.tasks = roomy(v.tasks, api.Task{Period: 1, Cycles: 1 << 12, Sec: []int{1 << 12, 1 << 12, 1 << 12}})
	for i, x := range v.tasks {
		v.tasks[i].Sec, v.tasks[i].Devs = roomy(x.Sec, 1<<12), roomy(x.Devs, 79)
	}
	v.next = roomy(v.next, 0)
	v.list = roomy(v.list, api.Job{Left: 1 << 12})
	v.held = roomy(v.held, locks.Held{Left: 1 << 12})
	return v
}

// whole is a copy of a list with its spare room.
func whole[T any](list []T) []T { return slices.Clone(list[:cap(list)]) }

// wholeView is a copy, the spare room of all lists with it.
func wholeView(v view) view {
	v.p.Levels, v.p.Sleeps, v.p.Devices = whole(v.p.Levels), whole(v.p.Sleeps), whole(v.p.Devices)
	v.tasks, v.next, v.list, v.held = whole(v.tasks), whole(v.next), whole(v.list), whole(v.held)
	for i, x := range v.tasks {
		v.tasks[i].Sec, v.tasks[i].Devs = whole(x.Sec), whole(x.Devs)
	}
	return v
}

// lengths are those of all lists.
func lengths(v view) []int {
	all := []int{len(v.p.Levels), len(v.p.Sleeps), len(v.p.Devices), len(v.tasks), len(v.next), len(v.list), len(v.held)}
	for _, x := range v.tasks[:cap(v.tasks)] {
		all = append(all, len(x.Sec), len(x.Devs))
	}
	return all
}

// backwards is a copy of a list the other way round.
func backwards[T any](list []T) []T {
	other := slices.Clone(list)
	slices.Reverse(other)
	return other
}

// orders are a view, and the same one with its jobs, and with what is held, in
// another order.
func orders(v view) []view {
	all := []view{v, v, v, v}
	all[1].list = backwards(v.list)
	all[2].held = backwards(v.held)
	all[3].list, all[3].held = backwards(v.list), backwards(v.held)
	return all
}

// answerIs holds what a call answers against what is wanted, twice and in
// each order of jobs and of what is held, and all that it was handed against
// what it was.
func answerIs(t *testing.T, name string, call ask, v view, at int, want *big.Int) {
	t.Helper()
	if fault := bracketFault(v, at); fault != "" {
		t.Fatalf("%s: the chapter does not speak of it: %s: %+v, %d", name, fault, v, at)
	}
	for _, one := range orders(v) {
		one = roomyView(one)
		wasWhole, wasLengths := wholeView(one), lengths(one)
		for range 2 {
			got := call(one.p, one.tasks, one.next, one.list, one.held, one.now, at)
			if want.Cmp(number(got)) != 0 {
				t.Fatalf("%s at %d of %+v is %d, not %v", name, at, one, got, want)
			}
			if !reflect.DeepEqual(wholeView(one), wasWhole) || !slices.Equal(lengths(one), wasLengths) {
				t.Fatalf("%s has changed what it was handed: %+v", name, one)
			}
		}
	}
}

func hindersIs(t *testing.T, name string, v view, at, want int) {
	t.Helper()
	answerIs(t, name+": Hinders", Hinders, v, at, number(want))
}

func atIs(t *testing.T, name string, v view, at, want int) {
	t.Helper()
	answerIs(t, name+": At", At, v, at, number(want))
}

func leastIs(t *testing.T, name string, v view, from, want int) {
	t.Helper()
	answerIs(t, name+": Least", Least, v, from, number(want))
}

// number is x without bounds.
func number(x int) *big.Int { return big.NewInt(int64(x)) }

// plainComes is from when a task's next job may come.
func plainComes(v view, i int) int {
	if v.next[i] > v.now {
		return v.next[i]
	}
	return v.now
}

// plainCeiling is chapter 9's Ceiling, sentence by sentence.
func plainCeiling(v view, s int) int {
	least := api.Never
	for _, x := range v.tasks {
		if s >= 0 && s < len(x.Sec) && x.Sec[s] > 0 && x.Period < least {
			least = x.Period
		}
	}
	return least
}

// plainAsks is whether task i has a job with a Deadline up to at, or its next
// one may have one.
func plainAsks(v view, i, at int) bool {
	for _, j := range v.list {
		if j.Task == i && j.Deadline <= at {
			return true
		}
	}
	return plainComes(v, i)+v.tasks[i].Period <= at
}

// plainHinders is P15.1 sentence by sentence.
func plainHinders(v view, at int) int {
	var lefts []int
	for _, h := range v.held {
		holder := slices.IndexFunc(v.list, func(j api.Job) bool { return j.Task == h.Task })
		if v.list[holder].Deadline <= at {
			continue
		}
		for i, x := range v.tasks {
			none := x.Period == 0
			if !none && x.Period < v.tasks[h.Task].Period && !(x.Period < plainCeiling(v, h.Sem)) && plainAsks(v, i, at) {
				lefts = append(lefts, h.Left)
			}
		}
	}
	if len(lefts) == 0 || slices.Max(lefts) < 0 {
		return 0
	}
	return slices.Max(lefts) * v.p.Levels[v.p.Crit].P
}

// plainPart is chapter 10's Part of level 0, as far as chapter 1's Times
// counts it.
func plainPart(v view, x api.Task) *big.Int {
	quanta := x.Cycles*v.p.Levels[0].P + 2*v.p.Switch
	part := new(big.Int).Lsh(number(quanta), 32)
	part.Add(part, number(x.Period-1))
	part.Div(part, number(x.Period))
	if bound := number(1 << 34); part.Cmp(bound) > 0 {
		return bound
	}
	return part
}

// plainAt is P15.2 sentence by sentence, in numbers without bounds.
func plainAt(v view, at int) *big.Int {
	quanta := at - v.now - plainHinders(v, at)
	for _, j := range v.list {
		if j.Deadline > at {
			continue
		}
		quanta -= j.Left * v.p.Levels[0].P
		quanta -= v.p.Switch
		if !j.Started {
			quanta -= v.p.Switch
		}
	}
	parts := new(big.Int).Lsh(number(quanta), 32)
	for i, x := range v.tasks {
		if x.Period == 0 || at <= plainComes(v, i) {
			continue
		}
		asked := new(big.Int).Mul(plainPart(v, x), number(at-plainComes(v, i)))
		parts.Sub(parts, asked)
	}
	return parts
}

// plainMoments are P15.3's moments, those that are ahead of from too.
func plainMoments(v view) []int {
	var all []int
	for i, x := range v.tasks {
		if x.Period > 0 {
			all = append(all, x.Period+plainComes(v, i))
		}
	}
	for _, j := range v.list {
		all = append(all, j.Deadline)
	}
	return all
}

// plainLeast is P15.3 sentence by sentence.
func plainLeast(v view, from int) *big.Int {
	var least *big.Int
	for _, at := range plainMoments(v) {
		if at < from {
			continue
		}
		if here := plainAt(v, at); least == nil || here.Cmp(least) < 0 {
			least = here
		}
	}
	if least == nil {
		return number(1 << 62)
	}
	return least
}

// plainIs holds all three calls against the promises' sentences.
func plainIs(t *testing.T, name string, v view, at int) {
	t.Helper()
	answerIs(t, name+": Hinders", Hinders, v, at, number(plainHinders(v, at)))
	answerIs(t, name+": At", At, v, at, plainAt(v, at))
	answerIs(t, name+": Least", Least, v, at, plainLeast(v, at))
}

// P15.3: the chapter's first example, on any machine.
func TestExampleWithoutTasks(t *testing.T) {
	for _, p := range []api.Platform{machine(0, 1), machine(9, 1, 2, 200, 256)} {
		for _, v := range []view{{p: p}, {p: p, tasks: []api.Task{}, next: []int{}, list: []api.Job{}, held: []locks.Held{}}} {
			for _, moment := range []int{0, 1, 500, last - 1, last} {
				v.now = moment
				for _, from := range []int{0, 1, 499, 500, 501, last} {
					leastIs(t, "example 1", v, from, 1<<62)
				}
			}
		}
	}
}

// P15.2, P15.3: the chapter's second example.
func TestExampleOfOneTask(t *testing.T) {
	v := view{p: machine(0, 1), tasks: []api.Task{doing(4, 1)}, next: []int{0}}
	atIs(t, "example 2", v, 4, 3*api.One)
	leastIs(t, "example 2", v, 0, 3*api.One)
}

// holding is a view in which task 2 holds semaphore 0 for three cycles yet.
// The Ceiling is 20, its own Period is 40; task 1, of Period 30, does not use
// it, but may be held up. Crit has a P of 5.
func holding() view {
	return view{
		p:     machine(0, 2, 3, 5),
		tasks: []api.Task{doing(20, 4, 2), doing(30, 6), doing(40, 8, 3)},
		next:  []int{last, last, last},
		list:  []api.Job{begun(2, 140, 8)},
		held:  []locks.Held{{Task: 2, Sem: 0, Left: 3}},
		now:   100,
	}
}

// P15.1: with nothing held nobody is hindered.
func TestHindersNothingHeld(t *testing.T) {
	v := holding()
	v.list = append(v.list, due(0, 120, 4), due(1, 125, 6))
	v.next = []int{0, 100, 119}
	hindersIs(t, "held", v, 130, 15)
	for _, held := range [][]locks.Held{nil, {}} {
		v.held = held
		for _, at := range []int{0, 99, 100, 120, 130, 139, 140, 141, last} {
			hindersIs(t, "nothing held", v, at, 0)
		}
	}
}

// P15.1: a semaphore counts just if its holder's Deadline is behind at.
func TestHindersHolderDeadline(t *testing.T) {
	for _, number := range []int{0, 1} {
		v := holding()
		v.list = append(v.list, due(number, 120, 4))
		for at, want := range map[int]int{
			0: 0, 119: 0, 120: 15, 121: 15, 138: 15, 139: 15, 140: 0, 141: 0, 142: 0, last: 0,
		} {
			hindersIs(t, "holder until 140", v, at, want)
		}
		for deadline, want := range map[int]int{0: 0, 128: 0, 129: 0, 130: 0, 131: 15, 132: 15, last: 15} {
			v.list[0].Deadline = deadline
			hindersIs(t, "at 130", v, 130, want)
		}
	}
}

// P15.1: whether the holder's job is Started, what it has Left, and what the
// job that is held up has, do not count.
func TestHindersOtherFields(t *testing.T) {
	for _, left := range []int{0, 1, api.MaxCycles} {
		for _, started := range []bool{false, true} {
			v := holding()
			v.list[0].Left, v.list[0].Started = left, started
			v.list[0].Real, v.list[0].Release = -left, left
			v.list = append(v.list, due(0, 120, left))
			v.list[1].Started, v.list[1].Real = started, left
			hindersIs(t, "other fields", v, 125, 15)
		}
	}
}

// P15.1: who is held up has a Period below the holder's, and not below the
// Ceiling.
func TestHindersPeriods(t *testing.T) {
	for period, want := range map[int]int{
		1: 0, 18: 0, 19: 0, 20: 15, 21: 15, 38: 15, 39: 15, 40: 0, 41: 0, 42: 0, api.MaxHorizon: 0,
	} {
		v := holding()
		v.tasks[1] = doing(period, 1)
		v.list = append(v.list, due(1, 120, 1))
		hindersIs(t, "with a job", v, 125, want)
		v = holding()
		v.tasks[1], v.now = doing(period, 1), 0
		v.next[1] = 125 - min(period, 125)
		v.list[0].Deadline = api.MaxHorizon + 1
		hindersIs(t, "with a next job", v, max(125, period), want)
	}
}

// P15.1: the Ceiling is of all tasks that use the semaphore, whoever holds it.
func TestHindersCeiling(t *testing.T) {
	v := holding()
	v.list = append(v.list, due(1, 120, 1))
	for ceiling, want := range map[int]int{1: 15, 28: 15, 29: 15, 30: 15, 31: 0, 32: 0, 39: 0, 40: 0, 41: 0} {
		v.tasks[0].Period = ceiling
		hindersIs(t, "ceiling", v, 125, want)
	}
	v.tasks[0] = doing(20, 4, 0)
	hindersIs(t, "used by the holder alone", v, 125, 0)
	v.tasks[1] = doing(30, 6, 1)
	hindersIs(t, "used by who is held up", v, 125, 15)
	v.tasks[2] = doing(40, 8)
	hindersIs(t, "not used by the holder", v, 125, 15)
	v.tasks[1] = doing(30, 6)
	hindersIs(t, "used by nobody", v, 125, 0)
}

// P15.1: a semaphore that nobody uses holds up nobody, whatever its number is.
func TestHindersOddSemaphores(t *testing.T) {
	v := holding()
	v.list = append(v.list, due(0, 120, 1), due(1, 120, 1))
	for _, sem := range []int{math.MinInt, -1, 1, 2, 3, 1 << 40, math.MaxInt} {
		v.held[0].Sem = sem
		hindersIs(t, "odd semaphore", v, 125, 0)
	}
	v.held[0].Sem = 0
	hindersIs(t, "semaphore 0", v, 125, 15)
}

// P15.1: each semaphore has a Ceiling of its own.
func TestHindersEachCeiling(t *testing.T) {
	v := holding()
	v.tasks = []api.Task{doing(20, 4, 0, 1), doing(30, 6, 0, 0, 1), doing(40, 8, 1, 2, 3)}
	v.list = append(v.list, due(0, 110, 1), due(1, 120, 1))
	for sem, wants := range [][]int{{0, 0}, {15, 15}, {0, 15}} {
		v.held = []locks.Held{{Task: 2, Sem: sem, Left: 3}}
		hindersIs(t, "task 0 is due", v, 115, wants[0])
		hindersIs(t, "task 1 is due", v, 125, wants[1])
	}
}

// P15.1: a job counts, if its Deadline is up to at.
func TestHindersJobUpToAt(t *testing.T) {
	for _, number := range []int{0, 1} {
		for deadline, want := range map[int]int{0: 15, 99: 15, 129: 15, 130: 15, 131: 0, 132: 0, 139: 0, last: 0} {
			v := holding()
			v.list = append(v.list, due(number, deadline, 1))
			hindersIs(t, "a job", v, 130, want)
		}
	}
	hindersIs(t, "no job", holding(), 130, 0)
	hindersIs(t, "no job", holding(), 139, 0)
}

// P15.1: a next job counts, if its Deadline may be up to at: a Period behind
// next, or behind now, if that is later.
func TestHindersNextUpToAt(t *testing.T) {
	for next, want := range map[int]int{0: 15, 50: 15, 99: 15, 100: 15, 104: 15, 105: 15, 106: 0, 107: 0, last: 0} {
		v := holding()
		v.next[1] = next
		hindersIs(t, "next", v, 135, want)
	}
	for _, next := range []int{0, 50, 98, 99, 100} {
		for now, want := range map[int]int{100: 15, 104: 15, 105: 15, 106: 0, 107: 0, 135: 0, last: 0} {
			v := holding()
			v.next[1], v.now = next, now
			hindersIs(t, "now", v, 135, want)
		}
	}
	for at, want := range map[int]int{0: 0, 100: 0, 129: 0, 130: 15, 131: 15, 139: 15, 140: 0} {
		v := holding()
		v.next[1] = 0
		hindersIs(t, "from now on", v, at, want)
		v.next[1] = 100
		hindersIs(t, "at now", v, at, want)
		v.next[1] = 101
		if at == 130 {
			want = 0
		}
		hindersIs(t, "behind now", v, at, want)
	}
}

// P15.1: a job that is due later does not keep the next one of its task from
// counting, nor a next one that comes late the job.
func TestHindersJobOrNext(t *testing.T) {
	v := holding()
	v.list = append(v.list, due(1, 138, 1))
	hindersIs(t, "neither", v, 137, 0)
	v.next[1] = 107
	hindersIs(t, "next", v, 137, 15)
	v.list[1].Deadline = 137
	hindersIs(t, "both", v, 137, 15)
	v.next[1] = 108
	hindersIs(t, "job", v, 137, 15)
}

// P15.1: a task of Period 0 is none: it is held up by nothing.
func TestHindersNoTask(t *testing.T) {
	for _, none := range []api.Task{{}, {Sec: []int{}, Devs: []int{}}} {
		v := holding()
		v.tasks = []api.Task{none, doing(30, 6, 1), doing(40, 8, 3), none}
		v.next = []int{0, last, last, 100}
		for _, at := range []int{0, 100, 101, 120, 139} {
			hindersIs(t, "none", v, at, 0)
		}
		v.held[0].Sem = 1
		hindersIs(t, "none, and nobody's semaphore", v, 139, 0)
		v.held[0].Sem, v.next[1] = 0, 109
		hindersIs(t, "none, and one", v, 139, 15)
	}
}

// P15.1: the greatest Left counts, none below 0.
func TestHindersLefts(t *testing.T) {
	v := holding()
	v.tasks = []api.Task{doing(20, 4, 1, 1, 1), doing(30, 6), doing(40, 8, 8, 8, 8)}
	v.list = append(v.list, due(1, 120, 1))
	for left, want := range map[int]int{
		-api.MaxCycles: 0, -2: 0, -1: 0, 0: 0, 1: 5, 2: 10, api.MaxCycles: 5 * api.MaxCycles,
	} {
		v.held = []locks.Held{{Task: 2, Sem: 0, Left: left}}
		hindersIs(t, "one", v, 130, want)
	}
	for _, row := range []struct {
		lefts [3]int
		want  int
	}{
		{[3]int{1, 2, 3}, 15}, {[3]int{2, 3, 1}, 15}, {[3]int{3, 1, 2}, 15}, {[3]int{3, 3, 3}, 15},
		{[3]int{-1, 0, 1}, 5}, {[3]int{0, -1, -2}, 0}, {[3]int{-3, -1, -2}, 0}, {[3]int{0, 0, 0}, 0},
		{[3]int{-4096, 4096, 4095}, 20480},
	} {
		v.held = nil
		for sem, left := range row.lefts {
			v.held = append(v.held, locks.Held{Task: 2, Sem: sem, Left: left})
		}
		hindersIs(t, "three", v, 130, row.want)
	}
}

// P15.1: of several holders those count that hold somebody up, and of these
// the greatest Left alone.
func TestHindersSeveralHolders(t *testing.T) {
	v := view{
		p:     machine(7, 1, 4),
		tasks: []api.Task{doing(10, 3, 0, 0, 1), doing(20, 4, 2, 0, 0), doing(30, 6, 3, 5, 0), doing(40, 8, 0, 6, 7)},
		next:  []int{last, last, last, last},
		list:  []api.Job{due(0, 50, 1), begun(1, 60, 2), begun(2, 70, 3), begun(3, 80, 4)},
	}
	// Semaphore 0 holds up who is due by 60, of 2 who is due by 50, and of 1
	// who is due by 70; all of them less than a Period of 40.
	for at, want := range map[int]int{
		49: 0, 50: 36, 59: 36, 60: 36, 69: 36, 70: 36, 79: 36, 80: 0,
	} {
		v.held = []locks.Held{{Task: 2, Sem: 0, Left: 5}, {Task: 3, Sem: 1, Left: 8}, {Task: 3, Sem: 2, Left: 9}}
		hindersIs(t, "all", v, at, want)
	}
	for at, want := range map[int]int{49: 0, 50: 0, 59: 0, 60: 20, 69: 20, 70: 32, 79: 32, 80: 0} {
		v.held = []locks.Held{{Task: 2, Sem: 0, Left: 5}, {Task: 3, Sem: 1, Left: 8}}
		hindersIs(t, "without 2", v, at, want)
	}
	for at, want := range map[int]int{49: 0, 50: 0, 59: 0, 60: 36, 69: 36, 70: 4, 79: 4, 80: 0} {
		v.held = []locks.Held{{Task: 2, Sem: 0, Left: 9}, {Task: 3, Sem: 1, Left: 1}}
		hindersIs(t, "the more urgent one for longer", v, at, want)
	}
	for at, want := range map[int]int{49: 0, 50: 0, 60: 4, 69: 4, 70: 0, 79: 0, 80: 0} {
		v.held = []locks.Held{{Task: 2, Sem: 0, Left: 1}, {Task: 3, Sem: 1, Left: -9}}
		hindersIs(t, "one for too long", v, at, want)
	}
}

// P15.1: it is the P of level Crit that counts, be it the first or the last.
func TestHindersCrit(t *testing.T) {
	v := holding()
	v.list = append(v.list, due(1, 120, 1))
	paces := []int{2, 3, 200, 256}
	v.p = machine(11, paces...)
	for crit, pace := range paces {
		v.p.Crit = crit
		hindersIs(t, "crit", v, 130, 3*pace)
	}
	for levels := 1; levels <= len(paces); levels++ {
		v.p = machine(11, paces[:levels]...)
		hindersIs(t, "levels", v, 130, 3*paces[levels-1])
	}
}

// P15.2: time goes by from now to at, and below 0 if at is ahead of now.
func TestAtAlone(t *testing.T) {
	for _, now := range []int{0, 1, 40, last - 1, last} {
		for _, at := range []int{0, 1, 39, 40, 41, last - 1, last} {
			want := (at - now) * api.One
			atIs(t, "alone", view{p: machine(3, 2, 5), now: now}, at, want)
			none := view{p: machine(3, 2, 5), tasks: make([]api.Task, 3), next: []int{0, 40, last}, now: now}
			atIs(t, "none", none, at, want)
		}
	}
}

// P15.2: a job takes its Left at the first level, and one switch or two, if
// its Deadline is up to at.
func TestAtJobs(t *testing.T) {
	for _, row := range []struct {
		j     api.Job
		takes int
	}{
		{due(0, 30, 0), 14}, {begun(0, 30, 0), 7},
		{due(0, 30, 1), 17}, {begun(0, 30, 1), 10},
		{due(0, 30, 5), 29}, {begun(0, 30, 5), 22},
		{due(0, 30, api.MaxCycles), 12302}, {begun(0, 30, api.MaxCycles), 12295},
	} {
		v := view{p: machine(7, 3, 4), tasks: []api.Task{doing(9, 5)}, next: []int{last}, list: []api.Job{row.j}, now: 20}
		for _, at := range []int{0, 20, 28, 29} {
			atIs(t, "ahead of its Deadline", v, at, (at-20)*api.One)
		}
		for _, at := range []int{30, 31, 32, last} {
			atIs(t, "from its Deadline on", v, at, (at-20-row.takes)*api.One)
		}
	}
}

// P15.2: each job with a Deadline up to at takes its time, each just once.
func TestAtSeveralJobs(t *testing.T) {
	v := view{
		p:     machine(1, 2, 256),
		tasks: []api.Task{doing(90, 9), doing(91, 9), doing(92, 9), doing(93, 9)},
		next:  []int{last, last, last, last},
		list:  []api.Job{due(0, 50, 5), begun(1, 60, 4), due(2, 60, 3), begun(3, 70, 0)},
		now:   10,
	}
	for at, want := range map[int]int{
		0: -10, 10: 0, 49: 39, 50: 28, 51: 29, 59: 37, 60: 38 - 9 - 8, 61: 39 - 9 - 8, 69: 30, 70: 30, 71: 31, 1000: 960,
	} {
		atIs(t, "several", v, at, want*api.One)
	}
	// What is late already takes its time, too.
	v.now = 80
	atIs(t, "late", v, 70, (-10-12-9-8-1)*api.One)
}

// P15.2: a task takes its part of the time from when its next job may come.
func TestAtTasks(t *testing.T) {
	// Part is (2*3+2*1)/16, a half.
	for _, next := range []int{0, 99, 100, 101, 150} {
		v := view{p: machine(1, 3, 5), tasks: []api.Task{doing(16, 2)}, next: []int{next}, now: 100}
		from := max(next, 100)
		for _, at := range []int{0, 98, 99, 100, 101, 102, 149, 150, 151, 152, 166, 1000, last} {
			twice := 2 * (at - 100)
			if at > from {
				twice -= at - from
			}
			atIs(t, "one task", v, at, twice*api.One/2)
		}
	}
}

// P15.2: parts are rounded up, ahead of being taken so many times.
func TestAtRounding(t *testing.T) {
	v := view{p: machine(0, 1), tasks: []api.Task{doing(3, 1)}, next: []int{0}}
	atIs(t, "a third", v, 3, 2*api.One-2)
	atIs(t, "a third", v, 1, api.One-1431655766)
	v.tasks, v.next = []api.Task{doing(3, 1), doing(3, 1), doing(7, 3)}, []int{0, 1, 2}
	// 3 sevenths are 1840700269.7.
	atIs(t, "thirds and sevenths", v, 5, 5*api.One-5*1431655766-4*1431655766-3*1840700270)
}

// P15.2: a task takes time, and its job too, and what hinders them.
func TestAtAll(t *testing.T) {
	v := holding()
	v.p = machine(1, 2, 3, 5)
	v.list = append(v.list, due(0, 120, 4))
	v.next = []int{120, 90, 140}
	// Parts: (4*2+2)/20 is a half; (6*2+2)/30 is 7/15; (8*2+2)/40.
	third := 2004318072
	for at, want := range map[int]int{
		99:  -api.One,
		100: 0,
		101: api.One - third,
		119: 19*api.One - 19*third,
		120: (20-15-10)*api.One - 20*third,
		121: (21-15-10)*api.One - 21*third - api.One/2,
		139: (39-15-10)*api.One - 39*third - 19*api.One/2,
		140: (40-10-17)*api.One - 40*third - 10*api.One,
		142: (42-10-17)*api.One - 42*third - 11*api.One - 2*1932735284,
	} {
		atIs(t, "all", v, at, want)
	}
}

// P15.2: answers may be far below 0, and nothing wraps round, with 64 tasks,
// each of a job, and all numbers at their ends.
func TestAtEnds(t *testing.T) {
	v := view{p: machine(api.MaxLatency, 255, 256)}
	for i := range 64 {
		v.tasks = append(v.tasks, doing(1+i%2, api.MaxCycles, api.MaxCycles))
		v.next = append(v.next, 0)
		v.list = append(v.list, due(i, (i%2)*last, api.MaxCycles))
		v.held = append(v.held, locks.Held{Task: i, Sem: 0, Left: api.MaxCycles})
	}
	for _, now := range []int{0, 1, last - 1, last} {
		v.now = now
		for _, at := range []int{0, 1, 2, last / 2, last - 1, last} {
			plainIs(t, "ends", v, at)
		}
	}
	v.now = 0
	jobs := 64 * (api.MaxCycles*255 + 512)
	atIs(t, "all at the end", v, last, (last-jobs)*api.One-64*(1<<34)*last)
	hindersIs(t, "held at its longest", v, 0, 256*api.MaxCycles)
	atIs(t, "half of it at the beginning", v, 0, (-jobs/2-256*api.MaxCycles)*api.One)
}

// P15.3: moments are those from from on, that one among them.
func TestLeastFrom(t *testing.T) {
	// The jobs take 20, 2 and 6, so that At is 10, 18 and 32.
	v := view{
		p:     machine(0, 2, 3),
		tasks: []api.Task{doing(90, 9), doing(91, 9), doing(92, 9)},
		next:  []int{last, last, last},
		list:  []api.Job{due(0, 30, 10), due(1, 40, 1), due(2, 60, 3)},
	}
	// From last on there are the tasks' own moments, behind all of that.
	rest := last + 90 - 28
	for from, want := range map[int]int{0: 10, 1: 10, 29: 10, 30: 10, 31: 18, 39: 18, 40: 18, 41: 32, 59: 32, 60: 32, 61: rest, last: rest} {
		if want == rest {
			answerIs(t, "from: Least", Least, v, from, plainLeast(v, from))
			continue
		}
		leastIs(t, "from", v, from, want*api.One)
	}
}

// P15.3: without a moment from from on it is Whole(2^30), jobs and tasks or
// none.
func TestLeastBehindAll(t *testing.T) {
	v := view{p: machine(0, 2, 3), tasks: []api.Task{{}, doing(10, 1), {}}, next: []int{0, 40, last}}
	v.list = []api.Job{due(1, 45, 3)}
	// At of 45 is 45 less 6 less 5 fifths, At of 50 less 10 of these.
	fifth := 858993460
	for from, want := range map[int]int{
		0: 39*api.One - 5*fifth, 44: 39*api.One - 5*fifth, 45: 39*api.One - 5*fifth,
		46: 44*api.One - 10*fifth, 49: 44*api.One - 10*fifth, 50: 44*api.One - 10*fifth,
		51: 1 << 62, 52: 1 << 62, last: 1 << 62,
	} {
		leastIs(t, "behind all", v, from, want)
	}
	v.list = nil
	leastIs(t, "a task alone", v, 50, 50*api.One-10*fifth)
	leastIs(t, "a task alone", v, 51, 1<<62)
	if got := Least(v.p, v.tasks, v.next, v.list, v.held, 0, 51); got != fix.Whole(1<<30) {
		t.Fatalf("Least is %d, not Whole(2^30)", got)
	}
}

// P15.3: of the tasks of Period 0 there is no moment, whatever their next is.
func TestLeastNoTask(t *testing.T) {
	v := view{p: machine(1, 2, 3), tasks: make([]api.Task, 3), next: []int{0, 7, 20}, now: 5}
	for _, from := range []int{0, 5, 7, 20, 21, last} {
		leastIs(t, "none", v, from, 1<<62)
	}
	// With one task among them, just its own moment counts.
	v.tasks[1] = doing(8, 3)
	leastIs(t, "none but one", v, 0, 2*api.One)
	leastIs(t, "none but one", v, 15, 2*api.One)
	leastIs(t, "none but one", v, 16, 1<<62)
	// The least Period that a task has is 1.
	v.tasks[1] = doing(1, 1)
	leastIs(t, "of Period 1", v, 8, -api.One)
	leastIs(t, "of Period 1", v, 9, 1<<62)
}

// P15.3: a task's moment is a Period behind next, or behind now, if that is
// later.
func TestLeastTaskMoment(t *testing.T) {
	for _, next := range []int{0, 59, 60, 61, 80} {
		v := view{p: machine(0, 1), tasks: []api.Task{doing(16, 8)}, next: []int{next}, now: 60}
		moment := max(next, 60) + 16
		want := (moment - 60 - 8) * api.One
		for _, from := range []int{0, 60, moment - 1, moment} {
			leastIs(t, "moment", v, from, want)
		}
		leastIs(t, "moment", v, moment+1, 1<<62)
	}
}

// P15.3: moments behind 2^21 are such, too: a task's next job may come then.
func TestLeastAtTheEnd(t *testing.T) {
	v := view{p: machine(0, 1), tasks: []api.Task{doing(api.MaxHorizon, api.MaxCycles)}, next: []int{last}, now: last}
	quarters := 3 * api.MaxHorizon / 4
	leastIs(t, "at the end", v, last, quarters*api.One)
	v.now = 0
	leastIs(t, "at the end", v, last, (last+quarters)*api.One)
	v.next[0], v.now = 0, last
	leastIs(t, "at the end", v, 0, quarters*api.One)
}

// P15.3: the least one counts, be it first, last or in the middle; and equal
// moments, of jobs and of tasks, count as one.
func TestLeastWhere(t *testing.T) {
	for place := range 3 {
		v := view{
			p:     machine(0, 1, 2),
			tasks: []api.Task{doing(500, 400), doing(500, 400), doing(500, 400)},
			next:  []int{1 << 20, 1 << 20, 1 << 20},
			list:  []api.Job{due(0, 1000, 1), due(1, 2000, 1), due(2, 3000, 1)},
		}
		v.list[place].Left = 4000
		want := (1000*(place+1) - 4000 - place) * api.One
		leastIs(t, "a job", v, 0, want)
		v.list[0].Deadline, v.list[2].Deadline = 2000, 2000
		leastIs(t, "equal jobs", v, 0, -2002*api.One)
		leastIs(t, "equal jobs", v, 2000, -2002*api.One)
	}
	for place := range 3 {
		v := view{
			p:     machine(0, 1, 2),
			tasks: []api.Task{doing(16, 1), doing(16, 1), doing(16, 1)},
			next:  []int{100, 200, 300},
		}
		v.next[place] = 0
		leastIs(t, "a task", v, 0, 15*api.One)
		v.next = []int{100, 100, 100}
		leastIs(t, "equal tasks", v, 0, 113*api.One)
		v.list = []api.Job{due(place, 116, 13)}
		leastIs(t, "tasks and a job", v, 0, 100*api.One)
		leastIs(t, "tasks and a job", v, 116, 100*api.One)
		leastIs(t, "tasks and a job", v, 117, 1<<62)
	}
}

// P15.3: what hinders counts at each moment of its own.
func TestLeastHindered(t *testing.T) {
	v := holding()
	v.list = append(v.list, due(0, 120, 2))
	v.next = []int{last, last, last}
	// At 120: 20 less 15 less 4; at 140: 40 less 20, and nothing hinders.
	leastIs(t, "hindered", v, 0, api.One)
	leastIs(t, "hindered", v, 120, api.One)
	leastIs(t, "not hindered", v, 121, 20*api.One)
	v.held = nil
	leastIs(t, "nothing held", v, 0, 16*api.One)
}

// P15.1 to P15.3: every moment of a short time, now and from at each.
func TestEveryMoment(t *testing.T) {
	v := view{
		p:     machine(1, 1, 2),
		tasks: []api.Task{doing(6, 1, 1), {}, doing(9, 2, 0, 1), doing(12, 3, 2, 1)},
		list:  []api.Job{begun(3, 14, 3), due(0, 11, 1)},
		held:  []locks.Held{{Task: 3, Sem: 0, Left: 2}, {Task: 3, Sem: 1, Left: 1}},
	}
	for now := range 13 {
		for next := range 13 {
			v.now, v.next = now, []int{11, next, next, 14}
			for at := range 28 {
				plainIs(t, fmt.Sprintf("now %d, next %d", now, next), v, at)
			}
		}
	}
}

// R4, R5: nothing is kept: what the caller writes into its lists counts from
// then on.
func TestNothingKept(t *testing.T) {
	v := holding()
	v.list = append(v.list, due(1, 120, 1))
	hindersIs(t, "at first", v, 130, 15)
	v.held[0].Left = 2
	hindersIs(t, "another Left", v, 130, 10)
	v.p.Levels[2].P = 6
	hindersIs(t, "another P", v, 130, 12)
	v.list[1].Deadline = 131
	hindersIs(t, "another Deadline", v, 130, 0)
	v.next[0] = 110
	hindersIs(t, "another next", v, 130, 12)
	v.tasks[0].Period = 21
	hindersIs(t, "another Period", v, 130, 0)
	atIs(t, "no jobs", v, 110, 10*api.One)
}

// ends are numbers at the ends of int, and such as are no number of anything.
var ends = []int{math.MinInt, math.MinInt + 1, -1 << 40, -7, -1, 7, 1 << 40, math.MaxInt - 1, math.MaxInt}

// oddViews are some of which the chapter does not speak: lists that are too
// short, numbers of no task or level, and numbers at the ends of int.
func oddViews() []view {
	all := []view{{}, {tasks: make([]api.Task, 2)}, {list: []api.Job{due(0, 0, 1)}, held: []locks.Held{{Left: 1}}}}
	for _, end := range ends {
		v := holding()
		v.p.Crit, v.next = end, v.next[:1]
		v.list = append(v.list, due(end, end, end), due(1, 120, 1), due(0, end, end), due(2, end, 0))
		v.held = append(v.held, locks.Held{Task: end, Sem: end, Left: end})
		all = append(all, v)
		v = holding()
		v.p.Levels, v.p.Switch, v.now, v.next = nil, end, end, []int{end, end, end, end}
		v.tasks = []api.Task{{Period: end, Cycles: end, Sec: []int{end}}, {Cycles: end, Sec: []int{1}}, {Period: end}}
		all = append(all, v)
	}
	return all
}

// R1, R7: a call ends without a panic also where nothing is promised of it.
func TestBeyondTheBracket(t *testing.T) {
	for _, v := range oddViews() {
		for _, at := range append([]int{0, 100, 130, 140, last}, ends...) {
			for _, call := range []ask{Hinders, At, Least} {
				call(v.p, v.tasks, v.next, v.list, v.held, v.now, at)
			}
		}
	}
}

// drawMachine is a machine that may be.
func drawMachine(r *rand.Rand) api.Platform {
	p := api.Platform{Switch: r.IntN(4), Sems: api.MaxSems, Horizon: 1 << (4 + r.IntN(11))}
	for range 1 + r.IntN(api.MaxLevels) {
		pace := 1
		if n := len(p.Levels); n > 0 {
			pace = p.Levels[n-1].P
		}
		p.Levels = append(p.Levels, api.Level{P: pace + 1 + r.IntN(3)})
	}
	p.Crit = r.IntN(len(p.Levels))
	return p
}

// drawTask is a task that may be on p, or, now and then, one that is none.
func drawTask(r *rand.Rand, p api.Platform) api.Task {
	if r.IntN(6) == 0 {
		return api.Task{}
	}
	x := doing(1+r.IntN(p.Horizon), 1+r.IntN(12))
	if r.IntN(2) == 0 {
		x.Period = 1 + r.IntN(16)
	}
	for range r.IntN(p.Sems + 1) {
		x.Sec = append(x.Sec, r.IntN(x.Cycles+1))
	}
	return x
}

// drawMoment is one around a mark, or any at all.
func drawMoment(r *rand.Rand, mark int) int {
	if r.IntN(16) == 0 {
		return r.IntN(last + 1)
	}
	return min(max(0, mark+r.IntN(41)-12), last)
}

// draw is a view at random: most of its moments lie near each other.
func draw(r *rand.Rand) view {
	v := view{p: drawMachine(r), now: r.IntN(40)}
	for i := range r.IntN(7) {
		v.tasks = append(v.tasks, drawTask(r, v.p))
		v.next = append(v.next, drawMoment(r, v.now))
		if v.tasks[i].Period == 0 || r.IntN(3) == 0 {
			continue
		}
		v.list = append(v.list, api.Job{
			Task: i, Release: drawMoment(r, v.now), Deadline: drawMoment(r, v.now),
			Left: r.IntN(20), Real: r.IntN(9) - 4, Started: r.IntN(2) == 0,
		})
	}
	for sem := range r.IntN(api.MaxSems + 1) {
		if len(v.list) > 0 {
			holder := v.list[r.IntN(len(v.list))].Task
			v.held = append(v.held, locks.Held{Task: holder, Sem: sem, Left: r.IntN(12) - 3})
		}
	}
	r.Shuffle(len(v.list), func(i, j int) { v.list[i], v.list[j] = v.list[j], v.list[i] })
	r.Shuffle(len(v.held), func(i, j int) { v.held[i], v.held[j] = v.held[j], v.held[i] })
	return v
}

// P15.1 to P15.3: many views, against the promises' sentences one by one.
func TestMany(t *testing.T) {
	r := rand.New(rand.NewPCG(15, 1))
	hindered, below, without := 0, 0, 0
	for range 20000 {
		v := draw(r)
		moments := append(plainMoments(v), drawMoment(r, v.now), v.now)
		at := min(max(0, moments[r.IntN(len(moments))]+r.IntN(3)-1), last)
		plainIs(t, "drawn", v, at)
		if plainHinders(v, at) > 0 {
			hindered++
		}
		if plainAt(v, at).Sign() < 0 {
			below++
		}
		if plainLeast(v, at).Cmp(number(1<<62)) == 0 {
			without++
		}
	}
	if hindered < 500 || below < 500 || without < 500 {
		t.Fatalf("too few of a kind: %d hindered, %d below 0, %d without a moment", hindered, below, without)
	}
}
