package admit

import (
	"fmt"
	"math"
	"math/big"
	"math/rand/v2"
	"reflect"
	"slices"
	"testing"

	"dormouse/api"
	"dormouse/fix"
	"dormouse/table"
	"dormouse/task"
)

// ends are numbers at the ends of int, and such as are far beyond each range.
var ends = []int{
	math.MinInt, math.MinInt + 1, math.MinInt / 2, -1 << 40, -1 << 32, -2,
	1 << 32, 1 << 40, math.MaxInt / 2, math.MaxInt - 1, math.MaxInt,
}

// roomy is a copy of a list, with spare room that is not empty.
func roomy[T any](list []T, filler T) []T {
	if list == nil {
		return nil
	}
	more := append(slices.Clone(list), filler, filler)
	return more[:len(list)]
}

// whole is a copy of a list with its spare room.
func whole[T any](list []T) []T { return slices.Clone(list[:cap(list)]) }

// given is what is handed in to a call.
type given struct {
	p     api.Platform
	tasks []api.Task
	used  []int
}

// roomyGiven is a copy whose lists have spare room. What stands there would
// change each answer, if it were looked at.
func roomyGiven(g given) given {
	g.p.Levels = roomy(g.p.Levels, api.Level{P: 1})
	g.p.Sleeps = roomy(g.p.Sleeps, api.Sleep{Even: 77})
	g.p.Devices = roomy(g.p.Devices, api.Device{Even: 78})
	g.tasks = roomy(g.tasks, api.Task{Period: 1, Cycles: 1 << 12, Sec: []int{1 << 12, 1 << 12, 1 << 12}})
	for i, x := range g.tasks {
		g.tasks[i].Sec, g.tasks[i].Devs = roomy(x.Sec, 1<<12), roomy(x.Devs, 79)
	}
	g.used = roomy(g.used, 1<<12)
	return g
}

// wholeGiven is a copy, the spare room of all lists with it.
func wholeGiven(g given) given {
	g.p.Levels, g.p.Sleeps, g.p.Devices = whole(g.p.Levels), whole(g.p.Sleeps), whole(g.p.Devices)
	g.tasks, g.used = whole(g.tasks), whole(g.used)
	for i, x := range g.tasks {
		g.tasks[i].Sec, g.tasks[i].Devs = whole(x.Sec), whole(x.Devs)
	}
	return g
}

// lengths are those of all lists.
func lengths(g given) []int {
	all := []int{len(g.p.Levels), len(g.p.Sleeps), len(g.p.Devices), len(g.tasks), len(g.used)}
	for _, x := range g.tasks[:cap(g.tasks)] {
		all = append(all, len(x.Sec), len(x.Devs))
	}
	return all
}

// inBracket holds that the chapter speaks of what is handed in.
func inBracket(t *testing.T, g given) {
	t.Helper()
	if table.Check(g.p) != api.OK || len(g.tasks) > 64 {
		t.Fatalf("a machine that may not be, or too many tasks: %+v", g)
	}
	for _, x := range g.tasks {
		if task.Check(g.p, x) != api.OK {
			t.Fatalf("a task that may not be: %+v on %+v", x, g.p)
		}
	}
}

// callIs holds what a call answers against what is wanted, twice, and all
// that it was handed against what it was.
func callIs[T comparable](t *testing.T, name string, g given, call func(g given) T, want T) {
	t.Helper()
	inBracket(t, g)
	g = roomyGiven(g)
	wasWhole, wasLengths := wholeGiven(g), lengths(g)
	for range 2 {
		if got := call(g); got != want {
			t.Fatalf("%s of %+v is %v, not %v", name, g, got, want)
		}
		if !reflect.DeepEqual(wholeGiven(g), wasWhole) || !slices.Equal(lengths(g), wasLengths) {
			t.Fatalf("%s has changed what it was handed: %+v", name, g)
		}
	}
}

func quantaIs(t *testing.T, p api.Platform, x api.Task, level, want int) {
	t.Helper()
	callIs(t, fmt.Sprintf("Quanta at level %d", level), given{p, []api.Task{x}, nil},
		func(g given) int { return Quanta(g.p, g.tasks[0], level) }, want)
}

func partIs(t *testing.T, p api.Platform, x api.Task, level, want int) {
	t.Helper()
	callIs(t, fmt.Sprintf("Part at level %d", level), given{p, []api.Task{x}, nil},
		func(g given) int { return Part(g.p, g.tasks[0], level) }, want)
}

func blockIs(t *testing.T, p api.Platform, tasks []api.Task, period, want int) {
	t.Helper()
	callIs(t, fmt.Sprintf("Block at period %d", period), given{p, tasks, nil},
		func(g given) int { return Block(g.p, g.tasks, period) }, want)
}

func reserveIs(t *testing.T, p api.Platform, tasks []api.Task, want int) {
	t.Helper()
	callIs(t, "Reserve", given{p, tasks, nil}, func(g given) int { return Reserve(g.p, g.tasks) }, want)
}

func loadIs(t *testing.T, p api.Platform, tasks []api.Task, level, want int) {
	t.Helper()
	callIs(t, fmt.Sprintf("Load at level %d", level), given{p, tasks, nil},
		func(g given) int { return Load(g.p, g.tasks, level) }, want)
}

func fitsIs(t *testing.T, p api.Platform, tasks []api.Task, want bool) {
	t.Helper()
	callIs(t, "Fits", given{p, tasks, nil}, func(g given) bool { return Fits(g.p, g.tasks) }, want)
}

func slowestIs(t *testing.T, p api.Platform, tasks []api.Task, want int) {
	t.Helper()
	callIs(t, "Slowest", given{p, tasks, nil}, func(g given) int { return Slowest(g.p, g.tasks) }, want)
}

func spareIs(t *testing.T, p api.Platform, tasks []api.Task, used []int, want int) {
	t.Helper()
	callIs(t, "Spare", given{p, tasks, used}, func(g given) int { return Spare(g.p, g.tasks, g.used) }, want)
}

// machine is one with levels of these Ps, of which Crit is the last one, all
// semaphores and the greatest Horizon.
func machine(switching int, paces ...int) api.Platform {
	p := api.Platform{Crit: len(paces) - 1, Switch: switching, Sems: api.MaxSems, Horizon: api.MaxHorizon}
	for _, pace := range paces {
		p.Levels = append(p.Levels, api.Level{P: pace})
	}
	return p
}

// critAt is p with another Crit.
func critAt(p api.Platform, crit int) api.Platform {
	p.Crit = crit
	return p
}

// doing is a task with these numbers in Sec.
func doing(period, cycles int, sec ...int) api.Task {
	return api.Task{Period: period, Cycles: cycles, Sec: sec}
}

// cyclesOf is what Cycles each task has.
func cyclesOf(tasks []api.Task) []int {
	var all []int
	for _, x := range tasks {
		all = append(all, x.Cycles)
	}
	return all
}

// P10.3, P10.4: the chapter's first example.
func TestExampleWithoutTasks(t *testing.T) {
	for _, tasks := range [][]api.Task{nil, {}} {
		for levels := 1; levels <= api.MaxLevels; levels++ {
			p := machine(9, []int{1, 2, 200, 256}[:levels]...)
			for level := range levels + 1 {
				loadIs(t, p, tasks, level, 0)
			}
			fitsIs(t, p, tasks, true)
			for crit := range levels {
				slowestIs(t, critAt(p, crit), tasks, crit)
			}
		}
	}
}

// P10.1, P10.2, P10.3: the chapter's second example.
func TestExampleOfOneTask(t *testing.T) {
	p, x := machine(0, 1), doing(4, 3)
	tasks := []api.Task{x}
	quantaIs(t, p, x, 0, 3)
	partIs(t, p, x, 0, api.One/4*3)
	blockIs(t, p, tasks, 4, 1)
	reserveIs(t, p, tasks, api.One/4)
	loadIs(t, p, tasks, 0, api.One)
	fitsIs(t, p, tasks, true)
	slowestIs(t, p, tasks, 0)
}

// P10.1: Quanta by hand, at each level, whatever Crit is, and 0 at numbers
// that are no levels.
func TestQuanta(t *testing.T) {
	x := doing(7, 5, 1, 2, 3)
	for crit := range 3 {
		p := critAt(machine(4, 2, 3, 10), crit)
		for level, want := range []int{5*2 + 8, 5*3 + 8, 5*10 + 8, 0, 0} {
			quantaIs(t, p, x, level, want)
		}
		for _, level := range append([]int{-1, -2, -3, -4, 4, 256}, ends...) {
			quantaIs(t, p, x, level, 0)
			partIs(t, p, x, level, 0)
		}
	}
	alone := machine(api.MaxLatency, 7)
	quantaIs(t, alone, x, 0, 5*7+512)
	quantaIs(t, alone, x, 1, 0)
	quantaIs(t, alone, x, -1, 0)
}

// P10.1: Quanta and Part with each number at its ends.
func TestQuantaAtEnds(t *testing.T) {
	for _, switching := range []int{0, 1, api.MaxLatency - 1, api.MaxLatency} {
		for _, pace := range []int{1, 2, api.MaxLatency - 1, api.MaxLatency} {
			p := machine(switching, pace)
			for _, cycles := range []int{1, 2, api.MaxCycles - 1, api.MaxCycles} {
				want := cycles*pace + 2*switching
				for _, period := range []int{1, 2, api.MaxHorizon - 1, api.MaxHorizon} {
					quantaIs(t, p, doing(period, cycles), 0, want)
					partIs(t, p, doing(period, cycles), 0, int(plainUtil(want, period).Int64()))
				}
			}
		}
	}
	quantaIs(t, machine(0, 1), doing(1, 1), 0, 1)
	quantaIs(t, machine(256, 256), doing(1, 4096), 0, 1049088)
	partIs(t, machine(256, 256), doing(1, 4096), 0, 1049088*api.One)
	partIs(t, machine(256, 256), doing(16384, 4096), 0, 1049088*(api.One/16384))
	partIs(t, machine(0, 1), doing(16384, 1), 0, api.One/16384)
}

// P10.1: a part that is a whole number of units, and such as are rounded up.
func TestPartRounded(t *testing.T) {
	p := machine(1, 1, 4)
	partIs(t, p, doing(8, 4), 0, api.One/4*3)
	partIs(t, p, doing(8, 4), 1, api.One/4*9)
	partIs(t, p, doing(6, 4), 0, api.One)
	partIs(t, p, doing(6, 4), 1, 3*api.One)
	partIs(t, machine(0, 1, 2), doing(3, 1), 0, 1431655766)
	partIs(t, machine(0, 1, 2), doing(3, 1), 1, 2863311531)
	partIs(t, machine(0, 1), doing(3, 4), 0, api.One+1431655766)
	partIs(t, machine(0, 1), doing(3, 3), 0, api.One)
	partIs(t, machine(0, 1), doing(16383, 1), 0, api.One/16383+1)
}

// periodsAround are those below, at and above each task's Period, and such as
// no task may have.
func periodsAround(tasks []api.Task) []int {
	all := append([]int{-1, 0, 1, api.MaxHorizon, api.MaxHorizon + 1, api.Never - 1, api.Never, api.Never + 1}, ends...)
	for _, x := range tasks {
		all = append(all, x.Period-1, x.Period, x.Period+1)
	}
	return all
}

// P10.2: of no tasks, and of one, nobody holds anything: what is left is the
// greater one of slow and Switch.
func TestBlockOfFewTasks(t *testing.T) {
	one := []api.Task{doing(10, 5, 5, 4, 3)}
	for _, switching := range []int{0, 1, 4, 5, 6, 256} {
		p := machine(switching, 2, 5)
		for _, tasks := range [][]api.Task{nil, {}, one} {
			for _, period := range periodsAround(tasks) {
				blockIs(t, p, tasks, period, max(5, switching))
			}
		}
	}
}

// P10.2: slow is the P of level Crit, neither of the first nor of the last
// level, and is below, at and above Switch.
func TestBlockSlow(t *testing.T) {
	tasks := []api.Task{doing(10, 1, 1), doing(20, 9, 7)}
	paces := []int{2, 3, 5, 8}
	for levels := 1; levels <= len(paces); levels++ {
		for crit := range levels {
			slow := paces[crit]
			for _, switching := range []int{0, 1, slow - 1, slow, slow + 1, 8, 9, 256} {
				p := critAt(machine(switching, paces[:levels]...), crit)
				blockIs(t, p, tasks, 10, 7*slow+max(slow, switching))
				blockIs(t, p, tasks, 20, max(slow, switching))
			}
		}
	}
	blockIs(t, machine(2, 1, 3), tasks, 10, 24)
	blockIs(t, machine(30, 1, 3), tasks, 10, 51)
}

// P10.2: the period is below, just at and above each task's Period.
func TestBlockAroundPeriods(t *testing.T) {
	tasks := []api.Task{doing(10, 1, 1), doing(20, 9, 7), doing(30, 9, 4)}
	p := machine(0, 1)
	for _, c := range [][2]int{
		{9, 0}, {10, 7}, {11, 7}, {19, 7}, {20, 4}, {21, 4}, {29, 4}, {30, 0}, {31, 0},
		{1, 0}, {0, 0}, {-1, 0}, {-10, 0}, {api.MaxHorizon, 0}, {api.Never, 0},
	} {
		blockIs(t, p, tasks, c[0], c[1]+1)
	}
	for _, end := range ends {
		blockIs(t, p, tasks, end, 1)
	}
}

// P10.2: the greatest number is of a task whose Period is not greater than
// period: it does not count.
func TestBlockOfLesserPeriods(t *testing.T) {
	p := machine(0, 1)
	blockIs(t, p, []api.Task{doing(10, 9, 9), doing(20, 9, 2)}, 10, 3)
	blockIs(t, p, []api.Task{doing(10, 9, 9), doing(10, 9, 8), doing(20, 9, 2)}, 10, 3)
	blockIs(t, p, []api.Task{doing(5, 9, 9), doing(10, 9, 8), doing(11, 9, 2)}, 10, 3)
	blockIs(t, p, []api.Task{doing(10, 9, 9), doing(20, 9, 2)}, 20, 1)
	blockIs(t, p, []api.Task{doing(10, 9, 9), doing(20, 9, 2)}, 15, 3)
	// The period need not be that of a task: here 9 tells who is kept out.
	blockIs(t, p, []api.Task{doing(8, 9, 1), doing(10, 9, 9), doing(20, 9, 2)}, 9, 10)
}

// P10.2: the Ceiling of a semaphore is above, just at and below period.
func TestBlockCeiling(t *testing.T) {
	p := machine(0, 1)
	for _, ceiling := range []int{9, 10, 11, 12, 19} {
		tasks := []api.Task{doing(ceiling, 9, 1), doing(20, 9, 8), doing(30, 9, 0, 3), doing(10, 1, 0, 1)}
		want := 3
		if ceiling <= 10 {
			want = 8
		}
		blockIs(t, p, tasks, 10, want+1)
	}
}

// P10.2: a semaphore that only tasks with greater Periods use holds up nobody.
func TestBlockOfGreaterPeriodsAlone(t *testing.T) {
	p := machine(0, 1)
	tasks := []api.Task{doing(10, 1), doing(20, 9, 8), doing(30, 9, 9)}
	blockIs(t, p, tasks, 10, 1)
	blockIs(t, p, tasks, 19, 1)
	blockIs(t, p, tasks, 20, 10)
	blockIs(t, p, tasks, 29, 10)
	tasks[0].Sec = []int{0, 1}
	blockIs(t, p, tasks, 10, 1)
	tasks[1].Sec = []int{8, 2}
	blockIs(t, p, tasks, 10, 3)
}

// P10.2: a task with a lesser Period that has 0 in Sec does not use it.
func TestBlockUsedWithNothing(t *testing.T) {
	p := machine(0, 1)
	for used, want := range []int{1, 9, 9} {
		blockIs(t, p, []api.Task{doing(10, 3, used), doing(20, 9, 8)}, 10, want)
		blockIs(t, p, []api.Task{doing(20, 9, 8), doing(10, 3, used)}, 10, want)
	}
	blockIs(t, p, []api.Task{doing(10, 3, 1), doing(20, 9, 0)}, 10, 1)
	blockIs(t, p, []api.Task{doing(10, 3, 1), doing(20, 9)}, 10, 1)
}

// P10.2: the greatest number stands in each task, and at each place of it.
func TestBlockAtEachPlace(t *testing.T) {
	p := machine(0, 1)
	for user := range 4 {
		for place := range 3 {
			for urgent := range 5 {
				var tasks []api.Task
				for range 4 {
					tasks = append(tasks, doing(20, 9, 2, 3, 1))
				}
				tasks[user].Sec[place] = 9
				tasks = slices.Insert(tasks, urgent, doing(10, 9, 1, 1, 1))
				blockIs(t, p, tasks, 10, 10)
				// Without the urgent one's use of it the others count.
				tasks[urgent].Sec[place] = 0
				blockIs(t, p, tasks, 10, []int{3, 2, 3}[place]+1)
			}
		}
	}
}

// P10.2: only the greatest number counts, not all of them together, and not
// the greatest of each semaphore.
func TestBlockCountsOnce(t *testing.T) {
	p := machine(0, 3)
	tasks := []api.Task{doing(10, 9, 1, 1, 1), doing(20, 9, 4, 5, 6), doing(30, 9, 6, 6, 6)}
	blockIs(t, p, tasks, 10, 6*3+3)
	blockIs(t, p, tasks, 20, 6*3+3)
	tasks[2].Sec = []int{1, 1, 2}
	blockIs(t, p, tasks, 20, 2*3+3)
}

// P10.3: the greatest is of the first, of a middle and of the last task.
func TestReserve(t *testing.T) {
	p := machine(0, 1)
	reserveIs(t, p, nil, 0)
	reserveIs(t, p, []api.Task{}, 0)
	reserveIs(t, machine(7, 1), nil, 0)
	for place := range 4 {
		tasks := slices.Insert([]api.Task{doing(50, 1), doing(40, 1), doing(60, 1)}, place, doing(20, 1))
		reserveIs(t, p, tasks, fix.Util(1, 20))
	}
	// Of 10 it is 1, of 11 it is 9, of 100 it is 1.
	held := []api.Task{doing(10, 1), doing(11, 1, 1), doing(100, 9, 8)}
	for _, order := range [][]int{{0, 1, 2}, {0, 2, 1}, {1, 0, 2}, {1, 2, 0}, {2, 0, 1}, {2, 1, 0}} {
		tasks := []api.Task{held[order[0]], held[order[1]], held[order[2]]}
		reserveIs(t, p, tasks, fix.Util(9, 11))
	}
	reserveIs(t, machine(5, 1, 2), []api.Task{doing(10, 1, 1), doing(20, 5, 4)}, fix.Util(13, 10))
}

// P10.3: the Reserve hangs on level Crit, not on the level of the Load.
func TestReserveAtCrit(t *testing.T) {
	tasks := []api.Task{doing(16, 1, 1), doing(32, 5, 4)}
	for crit, want := range []int{5, 10, 20} {
		p := critAt(machine(0, 1, 2, 4), crit)
		reserveIs(t, p, tasks, api.One/16*want)
		for level, pace := range []int{1, 2, 4} {
			loadIs(t, p, tasks, level, api.One/16*want+api.One/16*pace+api.One/32*5*pace)
		}
	}
}

// P10.3: Load is all Parts and the Reserve together, at each level; at one
// that the machine has not, the Reserve alone.
func TestLoad(t *testing.T) {
	p := machine(1, 1, 2, 3)
	tasks := []api.Task{doing(8, 2, 1), doing(16, 4, 3), doing(32, 1)}
	// 8: held up for 3*3+3, of 8; each is charged for two switches.
	reserveIs(t, p, tasks, api.One/8*12)
	loadIs(t, p, tasks, 0, api.One/8*12+api.One/8*4+api.One/16*6+api.One/32*3)
	loadIs(t, p, tasks, 1, api.One/8*12+api.One/8*6+api.One/16*10+api.One/32*4)
	loadIs(t, p, tasks, 2, api.One/8*12+api.One/8*8+api.One/16*14+api.One/32*5)
	for _, level := range append([]int{-1, -2, 3, 4, 8}, ends...) {
		loadIs(t, p, tasks, level, api.One/8*12)
	}
	// Each part is rounded up on its own.
	loadIs(t, machine(0, 1), []api.Task{doing(3, 1), doing(3, 1)}, 0, 3*1431655766)
}

// P10.3: the same task twice is counted twice; the order does not count.
func TestLoadOfMany(t *testing.T) {
	p := machine(0, 1)
	var tasks []api.Task
	for n := range 64 {
		loadIs(t, p, tasks, 0, n*api.One/32+min(n, 1)*api.One/64)
		fitsIs(t, p, tasks, n <= 31)
		tasks = append(tasks, doing(64, 2))
	}
	loadIs(t, p, tasks, 0, 2*api.One+api.One/64)
}

// just are tasks whose Load at a machine of one level of P 1 without Switch
// is so many units beyond One. With P n, and n times the Periods, it is the
// same.
func just(beyond, n int) []api.Task {
	switch beyond {
	case -1:
		return []api.Task{doing(1177*n, 485), doing(2037*n, 604), doing(2853*n, 829)}
	case 0:
		return []api.Task{doing(4*n, 3)}
	}
	return []api.Task{doing(3*n, 2)}
}

// P10.3: Fits at just One, one unit below and one unit above.
func TestFitsAroundOne(t *testing.T) {
	p := machine(0, 1)
	for beyond := -1; beyond <= 1; beyond++ {
		loadIs(t, p, just(beyond, 1), 0, api.One+beyond)
		fitsIs(t, p, just(beyond, 1), beyond <= 0)
		loadIs(t, machine(0, 2), just(beyond, 2), 0, api.One+beyond)
		fitsIs(t, machine(0, 2), just(beyond, 2), beyond <= 0)
	}
	// A lesser part than a unit is a unit: beyond One none is left.
	more := append(just(0, 1), doing(api.MaxHorizon, 1))
	loadIs(t, p, more, 0, api.One+api.One/api.MaxHorizon)
	fitsIs(t, p, more, false)
}

// P10.3: Fits looks at level 0 alone, and at the Reserve by Crit.
func TestFitsAtFirstLevel(t *testing.T) {
	tasks := []api.Task{doing(100, 50)}
	fitsIs(t, machine(0, 1, 50), tasks, true)
	fitsIs(t, machine(0, 1, 51), tasks, false)
	fitsIs(t, critAt(machine(0, 1, 51), 0), tasks, true)
	fitsIs(t, machine(0, 2), tasks, false)
	fitsIs(t, machine(17, 1), tasks, false)
	fitsIs(t, machine(16, 1), tasks, true)
}

// P10.4: each level would be the slowest that does; none behind Crit is taken.
func TestSlowest(t *testing.T) {
	paces := []int{1, 2, 4, 8}
	// Period 1024, Cycles c: c*P + slow at most 1024.
	for crit := range paces {
		p := critAt(machine(0, paces...), crit)
		for level, pace := range paces {
			most := (1024 - paces[crit]) / pace
			want := min(level, crit)
			slowestIs(t, p, []api.Task{doing(1024, most)}, want)
			if level > crit {
				continue
			}
			slowestIs(t, p, []api.Task{doing(1024, most+1)}, max(level-1, 0))
		}
		slowestIs(t, p, []api.Task{doing(1024, 1)}, crit)
		slowestIs(t, p, []api.Task{doing(1024, 4096)}, 0)
	}
}

// P10.4: Load of a level is just One, one unit below and one unit above.
func TestSlowestAroundOne(t *testing.T) {
	for beyond := -1; beyond <= 1; beyond++ {
		want := 1
		if beyond > 0 {
			want = 0
		}
		tasks, p := just(beyond, 2), machine(0, 1, 2)
		loadIs(t, p, tasks, 1, api.One+beyond)
		slowestIs(t, p, tasks, want)
		spareIs(t, p, tasks, cyclesOf(tasks), want)
		tasks, p = just(beyond, 3), critAt(machine(0, 1, 3, 4), 1)
		loadIs(t, p, tasks, 1, api.One+beyond)
		slowestIs(t, p, tasks, want)
		spareIs(t, p, tasks, cyclesOf(tasks), want)
	}
}

// P10.4: no level behind the first would do, with a Load of level 0 that is
// at most One, and above it.
func TestSlowestWithoutOne(t *testing.T) {
	p := machine(0, 1, 2, 3, 4)
	slowestIs(t, p, []api.Task{doing(128, 124)}, 0)
	fitsIs(t, p, []api.Task{doing(128, 124)}, true)
	slowestIs(t, p, []api.Task{doing(128, 125)}, 0)
	fitsIs(t, p, []api.Task{doing(128, 125)}, false)
	slowestIs(t, p, []api.Task{doing(1, 1)}, 0)
	slowestIs(t, p, []api.Task{doing(4, 4096), doing(3, 1)}, 0)
	slowestIs(t, machine(0, 1), []api.Task{doing(4, 3)}, 0)
	slowestIs(t, machine(0, 1), []api.Task{doing(4, 4)}, 0)
}

// P10.4: two switches of each job count.
func TestSlowestBesideSwitch(t *testing.T) {
	// 10*P + 2*Switch + the greater one of 3 and Switch, of 64.
	for switching, want := range []int{2, 2, 2, 2, 2, 2, 2, 2, 2, 2, 2, 2, 1, 1, 1, 0, 0} {
		slowestIs(t, machine(switching, 1, 2, 3), []api.Task{doing(64, 10)}, want)
	}
}

// P10.5: used is all 0: what is left are the switches and the Reserve.
func TestSpareOfNothing(t *testing.T) {
	tasks, used := []api.Task{doing(16, 4096), doing(32, 4096)}, []int{0, 0}
	spareIs(t, machine(0, 1, 2, 16), tasks, used, 2)
	spareIs(t, machine(0, 1, 2, 17), tasks, used, 0)
	spareIs(t, machine(1, 1, 2, 13), tasks, used, 2)
	spareIs(t, machine(1, 1, 2, 14), tasks, used, 0)
	spareIs(t, critAt(machine(1, 1, 2, 14), 1), tasks, used, 1)
	spareIs(t, machine(4, 1, 2, 4), tasks, used, 2)
	spareIs(t, machine(5, 1, 2, 4), tasks, used, 0)
	slowestIs(t, machine(0, 1, 2, 16), tasks, 0)
}

// P10.5: used is each task's Cycles, less and more, and MaxCycles.
func TestSpare(t *testing.T) {
	p := machine(0, 1, 2, 4)
	// a/16 + b/32 of P, and a quarter in Reserve: twice a and b, at most 24.
	tasks := []api.Task{doing(16, 5), doing(32, 2)}
	for _, c := range []struct{ a, b, want int }{
		{5, 2, 1}, {5, 3, 0}, {4, 4, 1}, {4, 5, 0}, {2, 2, 2}, {2, 3, 1}, {3, 0, 2}, {3, 1, 1}, {0, 6, 2},
		{0, 7, 1}, {0, 12, 1}, {0, 13, 0}, {0, 24, 0}, {0, 25, 0}, {6, 0, 1}, {7, 0, 0}, {12, 0, 0}, {13, 0, 0},
		{0, 0, 2}, {1, 1, 2}, {4096, 0, 0}, {0, 4096, 0}, {4096, 4096, 0},
	} {
		spareIs(t, p, tasks, []int{c.a, c.b}, c.want)
	}
	slowestIs(t, p, tasks, 1)
}

// P10.5: a level behind Crit would do, and is not taken.
func TestSpareUpToCrit(t *testing.T) {
	tasks := []api.Task{doing(100, 50)}
	for crit := range 4 {
		p := critAt(machine(0, 1, 2, 3, 4), crit)
		spareIs(t, p, tasks, []int{0}, crit)
		spareIs(t, p, tasks, []int{1}, crit)
		spareIs(t, p, tasks, []int{4096}, 0)
	}
}

// P10.5: one task's number alone changes, at each place.
func TestSpareOfOneChanged(t *testing.T) {
	p := machine(0, 1, 2)
	for place := range 4 {
		tasks := []api.Task{doing(64, 1), doing(64, 1), doing(64, 1), doing(64, 1)}
		used := []int{7, 7, 7, 7}
		spareIs(t, p, tasks, used, 1)
		used[place] = 10
		spareIs(t, p, tasks, used, 1)
		used[place] = 11
		spareIs(t, p, tasks, used, 0)
		// Each number goes with its own Period.
		used[place], tasks[place].Period = 20, 128
		spareIs(t, p, tasks, used, 1)
		used[place] = 21
		spareIs(t, p, tasks, used, 0)
	}
}

// P10.5: the Reserve is that of the tasks, whatever is used.
func TestSpareKeepsReserve(t *testing.T) {
	p := machine(0, 1, 2)
	tasks := []api.Task{doing(16, 2, 1), doing(32, 6, 6)}
	reserveIs(t, p, tasks, api.One/16*14)
	spareIs(t, p, tasks, []int{0, 0}, 1)
	spareIs(t, p, tasks, []int{1, 0}, 1)
	spareIs(t, p, tasks, []int{0, 2}, 1)
	spareIs(t, p, tasks, []int{1, 1}, 0)
	tasks[1].Sec[0] = 0
	spareIs(t, p, tasks, []int{1, 1}, 1)
}

// P10.5: of no tasks, with lists that are nil and empty, it is Crit.
func TestSpareWithoutTasks(t *testing.T) {
	for crit := range 3 {
		p := critAt(machine(256, 1, 2, 256), crit)
		for _, tasks := range [][]api.Task{nil, {}} {
			for _, used := range [][]int{nil, {}} {
				spareIs(t, p, tasks, used, crit)
			}
			slowestIs(t, p, tasks, crit)
		}
	}
}

// P10.1 to P10.5: 64 tasks with all numbers at their greatest: nothing wraps
// round.
func TestGreatest(t *testing.T) {
	p := machine(256, 253, 254, 255, 256)
	all := slices.Repeat([]api.Task{doing(1, 4096, 4096, 4096, 4096)}, 64)
	blockIs(t, p, all, 1, 256)
	blockIs(t, p, all, 0, 256)
	reserveIs(t, p, all, 256*api.One)
	loadIs(t, p, all, 3, (64*1049088+256)*api.One)
	all[63].Period = api.MaxHorizon
	blockIs(t, p, all, 1, 4096*256+256)
	reserveIs(t, p, all, 1048832*api.One)
	loadIs(t, p, all, 3, (63*1049088+1048832)*api.One+1049088*(api.One/api.MaxHorizon))
	fitsIs(t, p, all, false)
	slowestIs(t, p, all, 0)
	spareIs(t, p, all, slices.Repeat([]int{4096}, 64), 0)
	slow := slices.Repeat([]api.Task{doing(api.MaxHorizon, 4096, 4096, 4096, 4096)}, 64)
	loadIs(t, p, slow, 3, 64*1049088*(api.One/api.MaxHorizon)+api.One/64)
	fitsIs(t, p, slow, false)
	spareIs(t, p, slow, make([]int, 64), 0)
	spareIs(t, machine(100, 253, 254, 255, 256), slow, make([]int, 64), 3)
}

// plainUtil is c divided by t as a part, rounded up, without bounds.
func plainUtil(c, t int) *big.Int {
	parts := new(big.Int).Lsh(big.NewInt(int64(c)), 32)
	rounded, rest := new(big.Int).QuoRem(parts, big.NewInt(int64(t)), new(big.Int))
	if rest.Sign() > 0 {
		rounded.Add(rounded, big.NewInt(1))
	}
	return rounded
}

// plainQuanta looks for the level among all of them.
func plainQuanta(p api.Platform, cycles, level int) int {
	for number, l := range p.Levels {
		if number == level {
			return cycles*l.P + p.Switch + p.Switch
		}
	}
	return 0
}

// keptOut says whether a task with at most that period uses the semaphore.
func keptOut(tasks []api.Task, s, period int) bool {
	for _, x := range tasks {
		if len(x.Sec) > s && x.Sec[s] > 0 && x.Period <= period {
			return true
		}
	}
	return false
}

// plainBlock looks at all numbers that may count, and sorts them.
func plainBlock(p api.Platform, tasks []api.Task, period int) int {
	counting := []int{0}
	for s := range api.MaxSems {
		for _, x := range tasks {
			if len(x.Sec) > s && x.Period > period && keptOut(tasks, s, period) {
				counting = append(counting, x.Sec[s])
			}
		}
	}
	slices.Sort(counting)
	slow := p.Levels[p.Crit].P
	held := counting[len(counting)-1] * slow
	if slow > p.Switch {
		return held + slow
	}
	return held + p.Switch
}

// plainReserve is the greatest of all tasks.
func plainReserve(p api.Platform, tasks []api.Task) *big.Int {
	greatest := new(big.Int)
	for _, x := range tasks {
		if one := plainUtil(plainBlock(p, tasks, x.Period), x.Period); one.Cmp(greatest) > 0 {
			greatest = one
		}
	}
	return greatest
}

// plainLoad is the Reserve and all parts, by the cycles in used.
func plainLoad(p api.Platform, tasks []api.Task, used []int, level int) *big.Int {
	all := plainReserve(p, tasks)
	for i, x := range tasks {
		all = new(big.Int).Add(all, plainUtil(plainQuanta(p, used[i], level), x.Period))
	}
	return all
}

// plainFits says whether a load is at most One.
func plainFits(load *big.Int) bool { return load.Cmp(big.NewInt(api.One)) <= 0 }

// plainSlowest goes down from Crit to the first level that does.
func plainSlowest(p api.Platform, tasks []api.Task, used []int) int {
	for level := p.Crit; level > 0; level-- {
		if plainFits(plainLoad(p, tasks, used, level)) {
			return level
		}
	}
	return 0
}

// randomMachine is a machine that may be.
func randomMachine(r *rand.Rand) api.Platform {
	p := api.Platform{Sems: r.IntN(api.MaxSems + 1), Horizon: api.MaxHorizon, Switch: r.IntN(4)}
	if r.IntN(6) == 0 {
		p.Switch = api.MaxLatency - r.IntN(3)
	}
	pace, step := 0, 1+r.IntN(3)
	if r.IntN(6) == 0 {
		step = 64
	}
	for range 1 + r.IntN(api.MaxLevels) {
		pace += 1 + r.IntN(step)
		p.Levels = append(p.Levels, api.Level{P: pace, E: 40 - pace/8})
	}
	p.Crit = r.IntN(len(p.Levels))
	p.Devices = []api.Device{{On: 1, Even: 1}}
	return p
}

// randomTask is a task that may be on p, with a part that is mostly small.
func randomTask(r *rand.Rand, p api.Platform, longest int) api.Task {
	x := api.Task{Period: 1 + r.IntN(longest)}
	x.Cycles = 1 + r.IntN(min(api.MaxCycles, 1+x.Period/8))
	if r.IntN(40) == 0 {
		x.Cycles = 1 + r.IntN(api.MaxCycles)
	}
	for range r.IntN(p.Sems + 1) {
		x.Sec = append(x.Sec, r.IntN(x.Cycles+1)*r.IntN(2))
	}
	if r.IntN(2) == 0 {
		x.Devs = []int{0}
	}
	return x
}

// randomTasks are mostly few, with Periods of which some are the same.
func randomTasks(r *rand.Rand, p api.Platform) []api.Task {
	var tasks []api.Task
	many := r.IntN(7)
	if r.IntN(50) == 0 {
		many = r.IntN(65)
	}
	longest := []int{3, 12, 300, 5000, api.MaxHorizon}[r.IntN(5)]
	for range many {
		tasks = append(tasks, randomTask(r, p, longest))
	}
	return tasks
}

// randomUsed is, of each task, none, all, fewer or more of its Cycles.
func randomUsed(r *rand.Rand, tasks []api.Task) []int {
	var used []int
	for _, x := range tasks {
		some := r.IntN(x.Cycles + 1)
		used = append(used, []int{0, x.Cycles, some, some, min(api.MaxCycles, x.Cycles+some)}[r.IntN(5)])
	}
	if len(used) > 0 && r.IntN(20) == 0 {
		used[r.IntN(len(used))] = api.MaxCycles
	}
	return used
}

// P10.1 to P10.5: many machines and lists of tasks, each call against a plain
// look at the chapter's sentences.
func TestMany(t *testing.T) {
	r := rand.New(rand.NewPCG(10, 1))
	seen := map[string]int{}
	for range 8000 {
		p := randomMachine(r)
		tasks := randomTasks(r, p)
		reserveIs(t, p, tasks, int(plainReserve(p, tasks).Int64()))
		for level := -1; level <= len(p.Levels); level++ {
			loadIs(t, p, tasks, level, int(plainLoad(p, tasks, cyclesOf(tasks), level).Int64()))
		}
		for _, x := range tasks[:min(len(tasks), 6)] {
			level := r.IntN(len(p.Levels)+2) - 1
			quantaIs(t, p, x, level, plainQuanta(p, x.Cycles, level))
			partIs(t, p, x, level, int(plainUtil(plainQuanta(p, x.Cycles, level), x.Period).Int64()))
			period := x.Period + r.IntN(3) - 1
			block := plainBlock(p, tasks, period)
			blockIs(t, p, tasks, period, block)
			seen[fmt.Sprint("held up ", block > max(p.Levels[p.Crit].P, p.Switch))]++
		}
		fits := plainFits(plainLoad(p, tasks, cyclesOf(tasks), 0))
		fitsIs(t, p, tasks, fits)
		slowest := plainSlowest(p, tasks, cyclesOf(tasks))
		slowestIs(t, p, tasks, slowest)
		spareIs(t, p, tasks, cyclesOf(tasks), slowest)
		used := randomUsed(r, tasks)
		spare := plainSlowest(p, tasks, used)
		spareIs(t, p, tasks, used, spare)
		seen[fmt.Sprint("fits ", fits)]++
		seen[fmt.Sprint("slowest ", slowest)]++
		seen[fmt.Sprint("spare is more ", spare-slowest)]++
	}
	for _, kind := range []string{
		"held up true", "held up false", "fits true", "fits false",
		"slowest 0", "slowest 1", "slowest 2", "slowest 3",
		"spare is more -1", "spare is more 0", "spare is more 1", "spare is more 2",
	} {
		if seen[kind] < 30 {
			t.Errorf("only %d of %q", seen[kind], kind)
		}
	}
}

// Beyond the chapter's bracket nothing is promised; still each call answers.
func TestBeyondTheBracket(t *testing.T) {
	odd := api.Task{Sec: []int{math.MaxInt, -1, 0, 1, 1}}
	for _, p := range []api.Platform{{}, {Crit: math.MaxInt, Sems: math.MaxInt}, {Crit: -1}, machine(1, 1, 2)} {
		for _, tasks := range [][]api.Task{nil, {odd}, {odd, doing(-1, -1), doing(math.MaxInt, math.MaxInt, 1)}} {
			for _, used := range [][]int{nil, {}, {1}, {1, 2, 3, 4}} {
				Quanta(p, odd, 0)
				Part(p, odd, 0)
				Block(p, tasks, 0)
				Load(p, tasks, 0)
				Fits(p, tasks)
				Slowest(p, tasks)
				Spare(p, tasks, used)
			}
		}
	}
}
