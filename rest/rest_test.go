package rest

import (
	"math"
	"math/big"
	"math/rand/v2"
	"reflect"
	"slices"
	"testing"

	"dormouse/api"
	"dormouse/slack"
	"dormouse/table"
	"dormouse/task"
)

// last is the last moment of which the chapter speaks.
const last = 1 << 21

// view is what Ready is asked about.
type view struct {
	p     api.Platform
	tasks []api.Task
	next  []int
	now   int
}

// machine is one with levels of these Ps, all semaphores and devices, and the
// greatest Horizon.
func machine(switching int, paces ...int) api.Platform {
	p := api.Platform{Switch: switching, Sems: api.MaxSems, Horizon: api.MaxHorizon}
	for _, pace := range paces {
		p.Levels = append(p.Levels, api.Level{P: pace})
	}
	for range api.MaxDevices {
		p.Devices = append(p.Devices, api.Device{On: 2, Off: 1, Even: 5})
	}
	return p
}

// asks is a task that asks for so many cycles in each Period.
func asks(period, cycles int) api.Task { return api.Task{Period: period, Cycles: cycles} }

// alone is a view of one task, from moment 0 on, on a machine whose cycles
// take one quantum, and whose switches none.
func alone(period, cycles, next, now int) view {
	return view{machine(0, 1), []api.Task{asks(period, cycles)}, []int{next}, now}
}

// bracketFault says what there is that the chapter does not speak of; nothing,
// if it speaks of all.
func bracketFault(v view) string {
	if table.Check(v.p) != api.OK || len(v.tasks) > 64 || len(v.next) != len(v.tasks) {
		return "a machine that may not be, or too many tasks, or too few moments"
	}
	for _, x := range v.tasks {
		none := x.Period == 0 && x.Cycles == 0 && len(x.Sec) == 0 && len(x.Devs) == 0
		if !none && task.Check(v.p, x) != api.OK {
			return "a task that may not be"
		}
	}
	moments := append([]int{v.now}, v.next...)
	if slices.Min(moments) < 0 || slices.Max(moments) > last {
		return "a moment"
	}
	return ""
}

// roomy is a copy of a list, with spare room that is not empty.
func roomy[T any](list []T, filler T) []T {
	if list == nil {
		return nil
	}
	more := append(slices.Clone(list), filler, filler)
	return more[:len(list)]
}

// roomyView is a copy whose lists have spare room. What stands there would
// change the answers, if it were looked at.
func roomyView(v view) view {
	v.p.Levels = roomy(v.p.Levels, api.Level{P: 1})
	v.p.Sleeps = roomy(v.p.Sleeps, api.Sleep{Even: 77})
	v.p.Devices = roomy(v.p.Devices, api.Device{Even: 78})
	v.tasks = roomy(v.tasks, api.Task{Period: 1, Cycles: 1 << 12})
	for i, x := range v.tasks {
		v.tasks[i].Sec, v.tasks[i].Devs = roomy(x.Sec, 1<<12), roomy(x.Devs, 79)
	}
	v.next = roomy(v.next, 0)
	return v
}

// whole is a copy of a list with its spare room.
func whole[T any](list []T) []T { return slices.Clone(list[:cap(list)]) }

// wholeView is a copy, the spare room of all lists with it.
func wholeView(v view) view {
	v.p.Levels, v.p.Sleeps, v.p.Devices = whole(v.p.Levels), whole(v.p.Sleeps), whole(v.p.Devices)
	v.tasks, v.next = whole(v.tasks), whole(v.next)
	for i, x := range v.tasks {
		v.tasks[i].Sec, v.tasks[i].Devs = whole(x.Sec), whole(x.Devs)
	}
	return v
}

// lengths are those of all lists.
func lengths(v view) []int {
	all := []int{len(v.p.Levels), len(v.p.Sleeps), len(v.p.Devices), len(v.tasks), len(v.next)}
	for _, x := range v.tasks[:cap(v.tasks)] {
		all = append(all, len(x.Sec), len(x.Devs))
	}
	return all
}

// readyIs holds the answer of Ready against what is wanted, twice, and all
// that it was handed against what it was.
func readyIs(t *testing.T, name string, v view, want int) {
	t.Helper()
	if fault := bracketFault(v); fault != "" {
		t.Fatalf("%s: the chapter does not speak of it: %s: %+v", name, fault, v)
	}
	one := roomyView(v)
	wasWhole, wasLengths := wholeView(one), lengths(one)
	for range 2 {
		if got := Ready(one.p, one.tasks, one.next, one.now); got != want {
			t.Fatalf("%s: Ready of %+v is %d, not %d", name, one, got, want)
		}
		if !reflect.DeepEqual(wholeView(one), wasWhole) || !slices.Equal(lengths(one), wasLengths) {
			t.Fatalf("%s: Ready has changed what it was handed: %+v", name, one)
		}
	}
}

// leastIs makes sure that a view is the one that a test is about: that it has
// just so many parts left over.
func leastIs(t *testing.T, name string, v view, want int) {
	t.Helper()
	if got := slack.Least(v.p, v.tasks, v.next, nil, nil, v.now, v.now); got != want {
		t.Fatalf("%s: Least of %+v is %d, not %d", name, v, got, want)
	}
}

// number is x without bounds.
func number(x int) *big.Int { return big.NewInt(int64(x)) }

// plainComes is from when a task's next job may come.
func plainComes(v view, i int) int {
	if v.next[i] > v.now {
		return v.next[i]
	}
	return v.now
}

// plainPart is chapter 10's Part of level 0, as far as chapter 1's Times
// counts it.
func plainPart(v view, x api.Task) *big.Int {
	quanta := x.Cycles*v.p.Levels[0].P + 2*v.p.Switch
	part := new(big.Int).Lsh(number(quanta), 32)
	part.Add(part, number(x.Period-1))
	part.Div(part, number(x.Period))
	if bound := number(1 << 34); part.Cmp(bound) > 0 {
		return bound
	}
	return part
}

// plainAt is chapter 15's At, with no jobs and nothing held, in numbers
// without bounds.
func plainAt(v view, at int) *big.Int {
	parts := new(big.Int).Lsh(number(at-v.now), 32)
	for i, x := range v.tasks {
		if x.Period == 0 || at <= plainComes(v, i) {
			continue
		}
		asked := new(big.Int).Mul(plainPart(v, x), number(at-plainComes(v, i)))
		parts.Sub(parts, asked)
	}
	return parts
}

// plainLeast is chapter 15's Least from now on, with no jobs and nothing held.
func plainLeast(v view) *big.Int {
	var least *big.Int
	for i, x := range v.tasks {
		at := plainComes(v, i) + x.Period
		if x.Period == 0 || at < v.now {
			continue
		}
		if here := plainAt(v, at); least == nil || here.Cmp(least) < 0 {
			least = here
		}
	}
	if least == nil {
		return number(1 << 62)
	}
	return least
}

// plain is P17.1 sentence by sentence.
func plain(v view) int {
	// A shift of a number without bounds rounds down, below 0 too.
	quanta := new(big.Int).Rsh(plainLeast(v), 32)
	if quanta.Sign() < 0 {
		return v.now
	}
	if quanta.Cmp(number(api.MaxNap)) > 0 {
		return v.now + api.MaxNap
	}
	return v.now + int(quanta.Int64())
}

// plainIs holds Ready against the promise's sentence.
func plainIs(t *testing.T, name string, v view) {
	t.Helper()
	readyIs(t, name, v, plain(v))
}

// nows are moments at both ends and between.
var nows = []int{0, 1, 2, 7, 1000, 1 << 20, last - 1, last}

// P17.1: the chapter's first example, on any machine.
func TestExampleWithoutTasks(t *testing.T) {
	for _, p := range []api.Platform{machine(0, 1), machine(256, 1, 2, 200, 256), {Levels: []api.Level{{P: 1}}, Horizon: 1}} {
		for _, now := range nows {
			readyIs(t, "example 1", view{p: p, now: now}, now+1024)
			readyIs(t, "example 1", view{p, []api.Task{}, []int{}, now}, now+1024)
		}
	}
}

// P17.1: the chapter's second example, and the same one later.
func TestExampleOfOneTask(t *testing.T) {
	readyIs(t, "example 2", alone(4, 1, 0, 0), 3)
	for _, now := range nows {
		readyIs(t, "example 2", alone(4, 1, now, now), now+3)
		readyIs(t, "example 2", alone(4, 1, 0, now), now+3)
	}
}

// P17.1: tasks of Period 0 are none, whatever their next is.
func TestNoTaskAlone(t *testing.T) {
	for _, count := range []int{1, 2, 64} {
		for _, now := range nows {
			for _, next := range []int{0, now, min(now+1, last), last} {
				v := view{machine(3, 2, 5), make([]api.Task, count), slices.Repeat([]int{next}, count), now}
				readyIs(t, "none", v, now+1024)
				v.tasks[0] = api.Task{Sec: []int{}, Devs: []int{}}
				readyIs(t, "none", v, now+1024)
			}
		}
	}
}

// P17.1: a task of Period 0 among others never counts, in whatever place.
func TestNoTaskAmongOthers(t *testing.T) {
	for place := range 4 {
		for _, next := range []int{0, 100, 101, 120, last} {
			v := view{machine(0, 1), []api.Task{asks(16, 4), asks(32, 8), asks(64, 8)}, []int{100, 101, 102}, 100}
			// At 116: 16, less 4, less 15 quarters, less 14 eighths.
			readyIs(t, "three", v, 106)
			v.tasks = slices.Insert(v.tasks, place, api.Task{})
			v.next = slices.Insert(v.next, place, next)
			readyIs(t, "three and none", v, 106)
		}
	}
}

// P17.1: a task's next job may come from its next on, but not ahead of now.
func TestNextAroundNow(t *testing.T) {
	for next, want := range map[int]int{
		0: 503, 400: 503, 498: 503, 499: 503, 500: 503, 501: 504, 502: 505, 600: 603, 1000: 1003,
	} {
		readyIs(t, "at 500", alone(4, 1, next, 500), want)
	}
	for now, want := range map[int]int{
		0: 63, 1: 63, 59: 63, 60: 63, 61: 64, 62: 65, 100: 103, last - 1: last + 2, last: last + 3,
	} {
		readyIs(t, "next at 60", alone(4, 1, 60, now), want)
	}
}

// P17.1: so long as its next is ahead of now, the moment at which the CPU has
// to be there for a task stays where it is, but for MaxNap.
func TestComingNearer(t *testing.T) {
	for now := range 2101 {
		readyIs(t, "coming nearer", alone(32, 8, 2000, now), min(now+1024, max(2000, now)+24))
	}
}

// P17.1: a task of Period 1 has no time left over, when its job may come now.
func TestPeriodOne(t *testing.T) {
	for _, now := range []int{0, 40, last - 2} {
		readyIs(t, "now", alone(1, 1, 0, now), now)
		readyIs(t, "now", alone(1, 1, now, now), now)
		readyIs(t, "soon", alone(1, 1, now+1, now), now+1)
		readyIs(t, "then", alone(1, 1, now+2, now), now+2)
		readyIs(t, "too much", alone(1, 2, now+2, now), now+1)
	}
}

// less is a view with one part less than that many quanta left over: two
// thirds, rounded up and taken three times, are two quanta and a part.
func less(quanta, now int) view { return alone(3, 2, now+quanta-1, now) }

// exact is a view with just that many quanta left over.
func exact(quanta, now int) view {
	return alone(16, 16, now+quanta, now)
}

// more is a view with one part more than that many quanta left over: fifteen
// times the Parts of the first two tasks are a part less than one quantum.
func more(quanta, now int) view {
	from := now + quanta - 1
	tasks := []api.Task{asks(12544, 1), asks(15889, 1058), asks(16, 14)}
	return view{machine(0, 1), tasks, []int{from + 1, from + 1, from}, now}
}

// P17.1: Least is rounded down to whole quanta, from a part less to a part
// more.
func TestAroundWholeQuanta(t *testing.T) {
	for _, now := range []int{0, 1, 5000, last - 2000} {
		for _, quanta := range []int{1, 2, 3, 64, 500, 1022, 1023, 1024} {
			leastIs(t, "a part less", less(quanta, now), quanta*api.One-1)
			readyIs(t, "a part less", less(quanta, now), now+quanta-1)
			leastIs(t, "to the part", exact(quanta, now), quanta*api.One)
			readyIs(t, "to the part", exact(quanta, now), now+quanta)
			leastIs(t, "a part more", more(quanta, now), quanta*api.One+1)
			readyIs(t, "a part more", more(quanta, now), now+quanta)
		}
	}
}

// P17.1: below 0 it is at now, never ahead of it, and so it is from 0 to one
// part below a quantum.
func TestAroundZero(t *testing.T) {
	for _, now := range []int{0, 1, 5000, last - 1, last} {
		for cycles, quanta := range map[int]int{14: 2, 15: 1, 16: 0, 17: -1, 18: -2, 40: -24} {
			leastIs(t, "around 0", alone(16, cycles, now, now), quanta*api.One)
			readyIs(t, "around 0", alone(16, cycles, now, now), now+max(0, quanta))
		}
		leastIs(t, "a part below a quantum", less(1, now), api.One-1)
		readyIs(t, "a part below a quantum", less(1, now), now)
	}
	for _, now := range []int{0, 1, 5000, last - 1} {
		// The second task takes another quantum up to the same moment.
		v := less(1, now)
		v.tasks, v.next = append(v.tasks, asks(2, 1)), append(v.next, now+1)
		leastIs(t, "a part below 0", v, -1)
		readyIs(t, "a part below 0", v, now)
		v.tasks[1].Cycles = 2
		leastIs(t, "a part below -1", v, -api.One-1)
		readyIs(t, "a part below -1", v, now)
	}
}

// P17.1: it is never more than MaxNap later than now.
func TestAroundMaxNap(t *testing.T) {
	for _, now := range []int{0, 1, 5000, last - 5000} {
		for quanta, later := range map[int]int{
			1022: 1022, 1023: 1023, 1024: 1024, 1025: 1024, 1026: 1024, 2048: 1024, 5000: 1024,
		} {
			leastIs(t, "around MaxNap", exact(quanta, now), quanta*api.One)
			readyIs(t, "around MaxNap", exact(quanta, now), now+later)
		}
		for _, quanta := range []int{1024, 1025, 4000} {
			readyIs(t, "a part less", less(quanta, now), now+min(quanta-1, 1024))
			readyIs(t, "a part more", more(quanta, now), now+1024)
		}
	}
	readyIs(t, "as late as may be", alone(api.MaxHorizon, 1, last, 0), 1024)
	readyIs(t, "as late as may be", alone(api.MaxHorizon, 1, last, last), last+1024)
}

// P17.1: the task with the least time left over counts, be it first, last or
// in the middle.
func TestWhichTask(t *testing.T) {
	for place := range 3 {
		v := view{machine(0, 1, 2), []api.Task{asks(128, 32), asks(128, 32), asks(128, 32)}, []int{700, 900, 1100}, 100}
		readyIs(t, "by the first to come", v, 796)
		v.next[place] = 100
		readyIs(t, "by one that comes now", v, 196)
		v.tasks[place] = asks(128, 90)
		readyIs(t, "by one that asks for much", v, 138)
		v.tasks[place] = asks(64, 32)
		readyIs(t, "by one of a short Period", v, 132)
	}
	// What comes later may leave less, if all is too much for the machine: at
	// 48 there are 24 left over by two, and the third takes most of them.
	for place := range 3 {
		v := view{machine(0, 1), []api.Task{asks(16, 4), asks(16, 4)}, []int{0, 0}, 0}
		readyIs(t, "two", v, 8)
		v.tasks = slices.Insert(v.tasks, place, asks(32, 20))
		v.next = slices.Insert(v.next, place, 16)
		leastIs(t, "and one that asks for much later", v, 4*api.One)
		readyIs(t, "and one that asks for much later", v, 4)
		v.now, v.next = 5, []int{5, 5, 5}
		v.next[place] = 21
		readyIs(t, "and one that asks for much later", v, 9)
		v.tasks[place].Cycles = 25
		readyIs(t, "and one that asks for too much", v, 5)
	}
}

// P17.1: each task takes its Part from the time that others have left over.
func TestAllTasksTake(t *testing.T) {
	v := view{p: machine(0, 1), now: 10}
	for count := range 9 {
		want := 1034
		if count > 0 {
			want = 10 + 64 - 8*count
		}
		readyIs(t, "together", v, want)
		v.tasks, v.next = append(v.tasks, asks(64, 8)), append(v.next, 10)
	}
	v.tasks, v.next = v.tasks[:8], v.next[:8]
	for i := range v.next {
		v.next[i] = 10 + 8*i
	}
	// Up to 74 they take 8, 7, .. and 1, and from then on all that there is.
	readyIs(t, "one behind the other", v, 74-36)
}

// P17.1: tasks that are too much for the machine leave less than nothing.
func TestTooMuch(t *testing.T) {
	for _, now := range nows {
		v := view{machine(256, 255, 256), nil, nil, now}
		for i := range 64 {
			v.tasks = append(v.tasks, asks(1+i%2, api.MaxCycles))
			v.next = append(v.next, now)
		}
		readyIs(t, "64 at their greatest", v, now)
		v.next = slices.Repeat([]int{last}, 64)
		readyIs(t, "64 at the end", v, plain(v))
	}
	v := view{machine(0, 1), []api.Task{asks(8, 9)}, []int{100}, 0}
	readyIs(t, "too much, but later", v, 99)
	v.tasks[0].Cycles = 4 * 8
	readyIs(t, "four times too much, but later", v, 76)
	v.tasks[0].Cycles = 4*8 + 1
	// Times takes no Part that is above four times the CPU.
	readyIs(t, "even more, but later", v, 76)
}

// P17.1: a job takes two switches, and its cycles at the first level.
func TestSwitchAndPace(t *testing.T) {
	for _, row := range []struct{ switching, pace, want int }{
		{0, 1, 1024 - 64}, {1, 1, 1024 - 66}, {256, 1, 1024 - 64 - 512},
		{0, 2, 1024 - 128}, {3, 7, 1024 - 448 - 6}, {0, 16, 0}, {1, 16, 0},
		{0, 255, 0}, {0, 256, 0}, {256, 256, 0},
	} {
		v := view{machine(row.switching, row.pace), []api.Task{asks(1024, 64)}, []int{0}, 0}
		readyIs(t, "64 cycles", v, row.want)
	}
	for _, row := range []struct{ switching, pace, want int }{
		{0, 1, 1023}, {0, 256, 768}, {256, 1, 511}, {256, 256, 256}, {255, 255, 259},
	} {
		v := view{machine(row.switching, row.pace), []api.Task{asks(1024, 1)}, []int{0}, 0}
		readyIs(t, "one cycle", v, row.want)
	}
}

// P17.1: the first level's P alone counts, and no Crit.
func TestLevelsAndCrit(t *testing.T) {
	paces := []int{2, 3, 200, 256}
	for levels := 1; levels <= api.MaxLevels; levels++ {
		for crit := range levels {
			v := view{machine(1, paces[:levels]...), []api.Task{asks(32, 7)}, []int{50}, 40}
			v.p.Crit = crit
			readyIs(t, "levels and Crit", v, 66)
		}
	}
}

// P17.1: what a machine costs, how it sleeps, and its Horizon, do not count.
func TestRestOfTheMachine(t *testing.T) {
	v := view{machine(1, 2, 3), []api.Task{asks(32, 7)}, []int{50}, 40}
	for _, horizon := range []int{32, 33, 100, api.MaxHorizon} {
		v.p.Horizon = horizon
		readyIs(t, "Horizon", v, 66)
	}
	v.p.Sleeps = []api.Sleep{{Even: 1}, {Enter: 9, Exit: 8, Even: 17}, {Even: api.MaxHorizon}}
	readyIs(t, "sleep states", v, 66)
	v.p.Idle, v.p.SwitchE, v.p.Levels[0].E = 3, 7, 9
	readyIs(t, "energy", v, 66)
}

// P17.1: devices and semaphores that tasks name change nothing.
func TestDevicesAndSemaphores(t *testing.T) {
	for _, sec := range [][]int{nil, {}, {0}, {1}, {7, 7, 7}, {0, 0, 7}} {
		for _, devs := range [][]int{nil, {}, {0}, {0, 1, 2}, {2}} {
			v := view{machine(1, 2, 3), []api.Task{asks(32, 7), asks(64, 8)}, []int{50, 60}, 40}
			readyIs(t, "without", v, 59)
			v.tasks[0].Sec, v.tasks[0].Devs = sec, devs
			readyIs(t, "of the first", v, 59)
			v.tasks[1].Sec, v.tasks[1].Devs = sec, devs
			readyIs(t, "of both", v, 59)
		}
	}
}

// P17.1: one task of any small Period, Cycles, next and now.
func TestEverySmallTask(t *testing.T) {
	for period := 1; period <= 8; period++ {
		for cycles := 1; cycles <= 9; cycles++ {
			for next := range 6 {
				for now := range 6 {
					plainIs(t, "small", alone(period, cycles, next, now))
				}
			}
		}
	}
}

// R4, R5: nothing is kept: what the caller writes into its lists counts from
// then on.
func TestNothingKept(t *testing.T) {
	v := alone(16, 4, 10, 10)
	readyIs(t, "at first", v, 22)
	v.tasks[0].Cycles = 8
	readyIs(t, "other Cycles", v, 18)
	v.next[0] = 20
	readyIs(t, "another next", v, 28)
	v.p.Levels[0].P = 2
	readyIs(t, "another P", v, 20)
	v.tasks[0] = api.Task{}
	readyIs(t, "no task any more", v, 1034)
}

// ends are numbers at the ends of int, and such as are no number of anything.
var ends = []int{math.MinInt, math.MinInt + 1, -1 << 40, -7, -1, 7, 1 << 40, math.MaxInt - 1, math.MaxInt}

// R1, R7: a call ends without a panic also where nothing is promised of it.
func TestBeyondTheBracket(t *testing.T) {
	Ready(api.Platform{}, nil, nil, 0)
	Ready(api.Platform{}, []api.Task{asks(4, 1)}, nil, 0)
	for _, end := range ends {
		p := machine(end, end, end)
		p.Crit, p.Sems, p.Horizon = end, end, end
		tasks := []api.Task{{Period: end, Cycles: end, Sec: []int{end}, Devs: []int{end}}, asks(4, end), asks(end, 1)}
		for _, now := range append([]int{0, last}, ends...) {
			Ready(p, tasks, []int{end, now}, now)
			Ready(p, tasks, []int{now, end, end, end}, now)
			Ready(machine(0, 1), tasks, nil, now)
		}
	}
}

// drawMachine is a machine that may be.
func drawMachine(r *rand.Rand) api.Platform {
	paces := []int{1 + r.IntN(3)}
	for range r.IntN(api.MaxLevels) {
		paces = append(paces, paces[len(paces)-1]+1+r.IntN(3))
	}
	p := machine(r.IntN(4), paces...)
	p.Crit, p.Horizon = r.IntN(len(paces)), 1<<(4+r.IntN(11))
	return p
}

// drawTask is a task that may be on p, or, now and then, one that is none.
func drawTask(r *rand.Rand, p api.Platform) api.Task {
	if r.IntN(6) == 0 {
		return api.Task{}
	}
	x := asks(1+r.IntN(p.Horizon), 1+r.IntN(12))
	if r.IntN(3) == 0 {
		x.Period = 1 + r.IntN(16)
	}
	for range r.IntN(p.Sems + 1) {
		x.Sec = append(x.Sec, r.IntN(x.Cycles+1))
	}
	if r.IntN(3) == 0 {
		x.Devs = []int{r.IntN(len(p.Devices))}
	}
	return x
}

// drawMoment is one around a mark, somewhat behind it, or any at all.
func drawMoment(r *rand.Rand, mark int) int {
	switch r.IntN(8) {
	case 0:
		return r.IntN(last + 1)
	case 1, 2, 3:
		return min(mark+r.IntN(1200), last)
	}
	return min(max(0, mark+r.IntN(41)-12), last)
}

// draw is a view at random.
func draw(r *rand.Rand) view {
	v := view{p: drawMachine(r), now: r.IntN(40)}
	if r.IntN(4) == 0 {
		v.now = r.IntN(last + 1)
	}
	for range r.IntN(7) {
		v.tasks = append(v.tasks, drawTask(r, v.p))
		v.next = append(v.next, drawMoment(r, v.now))
	}
	return v
}

// P17.1: many views, against the promise's sentence.
func TestMany(t *testing.T) {
	r := rand.New(rand.NewPCG(17, 1))
	atNow, below, between, far := 0, 0, 0, 0
	for range 20000 {
		v := draw(r)
		plainIs(t, "drawn", v)
		switch later := plain(v) - v.now; {
		case plainLeast(v).Sign() < 0:
			below++
		case later == 0:
			atNow++
		case later == api.MaxNap:
			far++
		default:
			between++
		}
	}
	if atNow < 50 || below < 2000 || between < 2000 || far < 2000 {
		t.Fatalf("too few of a kind: %d at now, %d below 0, %d between, %d far", atNow, below, between, far)
	}
}
