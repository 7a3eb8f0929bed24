package task

import (
	"fmt"
	"math"
	"math/rand/v2"
	"reflect"
	"slices"
	"testing"

	"dormouse/api"
	"dormouse/table"
)

// ends are numbers at the ends of int, and such as are far beyond each range.
var ends = []int{
	math.MinInt, math.MinInt + 1, math.MinInt / 2, -1 << 40, -1 << 32, -2,
	1 << 32, 1 << 40, math.MaxInt / 2, math.MaxInt - 1, math.MaxInt,
}

// roomy is a copy of a list, with spare room that is not empty.
func roomy[T any](list []T, filler T) []T {
	if list == nil {
		return nil
	}
	more := append(slices.Clone(list), filler, filler)
	return more[:len(list)]
}

// whole is a copy of a list with its spare room.
func whole[T any](list []T) []T { return slices.Clone(list[:cap(list)]) }

// roomyTask is a copy of a task whose lists have spare room, full of fillers.
func roomyTask(x api.Task, filler int) api.Task {
	x.Sec, x.Devs = roomy(x.Sec, filler), roomy(x.Devs, filler)
	return x
}

// wholeTask is a copy of a task, the spare room of its lists with it.
func wholeTask(x api.Task) api.Task {
	x.Sec, x.Devs = whole(x.Sec), whole(x.Devs)
	return x
}

// taskStays runs a call, and holds a task, the lengths of its lists and their
// spare room against what they were.
func taskStays(t *testing.T, name string, x *api.Task, call func()) {
	t.Helper()
	was, wasWhole := *x, wholeTask(*x)
	was.Sec, was.Devs = slices.Clone(x.Sec), slices.Clone(x.Devs)
	call()
	if !reflect.DeepEqual(*x, was) || !reflect.DeepEqual(wholeTask(*x), wasWhole) {
		t.Fatalf("%s has changed what it was handed: %+v, %+v", name, was, *x)
	}
}

// machine is one with so many semaphores and devices, held to be one that may
// be.
func machine(t *testing.T, sems, devices, horizon int) api.Platform {
	t.Helper()
	p := api.Platform{
		Levels: []api.Level{{P: 1, E: 9}, {P: 2, E: 8}}, Sleeps: []api.Sleep{{Even: 1}},
		Crit: 1, Sems: sems, Horizon: horizon,
	}
	for range devices {
		p.Devices = append(p.Devices, api.Device{On: 5, Off: 1, Even: 2})
	}
	if table.Check(p) != api.OK {
		t.Fatalf("a machine that may not be: %+v", p)
	}
	return p
}

// checkIs holds Check against what is wanted, twice for each of some fillers
// of the spare room, and p, x and their lists against what they were.
func checkIs(t *testing.T, p api.Platform, x api.Task, want api.Errno) {
	t.Helper()
	p.Levels = roomy(p.Levels, api.Level{P: 77, E: 78})
	p.Sleeps = roomy(p.Sleeps, api.Sleep{Power: 79, Even: 80})
	p.Devices = roomy(p.Devices, api.Device{On: 81, Even: 82})
	was, levels, sleeps, devices := p, whole(p.Levels), whole(p.Sleeps), whole(p.Devices)
	for _, filler := range []int{-1, 0, 1, math.MaxInt} {
		x := roomyTask(x, filler)
		taskStays(t, "Check", &x, func() {
			for range 2 {
				if got := Check(p, x); got != want {
					t.Fatalf("Check(%+v, %+v) is %d, not %d", p, x, got, want)
				}
			}
		})
	}
	if !reflect.DeepEqual(p, was) || !slices.Equal(levels, whole(p.Levels)) ||
		!slices.Equal(sleeps, whole(p.Sleeps)) || !slices.Equal(devices, whole(p.Devices)) {
		t.Fatalf("Check has changed the machine that it was handed: %+v", p)
	}
}

// mayBe holds that a task may be on a machine.
func mayBe(t *testing.T, p api.Platform, x api.Task) {
	t.Helper()
	checkIs(t, p, x, api.OK)
}

// mayNotBe holds that a task may not be on a machine.
func mayNotBe(t *testing.T, p api.Platform, x api.Task) {
	t.Helper()
	checkIs(t, p, x, api.ErrTask)
}

// right is a task that may be on a machine of three semaphores, three devices
// and a Horizon of 50, with room around each number.
func right() api.Task {
	return api.Task{Period: 20, Cycles: 10, Sec: []int{3, 0, 5}, Devs: []int{0, 1, 2}}
}

// plainCheck looks at each sentence of P9.1.
func plainCheck(p api.Platform, x api.Task) api.Errno {
	holds := []bool{
		x.Period >= 1, x.Period <= p.Horizon,
		x.Cycles >= 1, x.Cycles <= api.MaxCycles,
		len(x.Sec) <= p.Sems,
	}
	for _, cycles := range x.Sec {
		holds = append(holds, cycles >= 0, cycles <= x.Cycles)
	}
	for i, d := range x.Devs {
		holds = append(holds, d >= 0, d < len(p.Devices))
		for _, ahead := range x.Devs[:i] {
			holds = append(holds, d > ahead)
		}
	}
	if slices.Contains(holds, false) {
		return api.ErrTask
	}
	return api.OK
}

// P9.1: the chapter's first example.
func TestCheckExample(t *testing.T) {
	p := machine(t, 1, 0, 50)
	mayNotBe(t, p, api.Task{Period: 0, Cycles: 3})
	mayNotBe(t, p, api.Task{Period: 20, Cycles: 3, Sec: []int{4}})
	mayBe(t, p, api.Task{Period: 20, Cycles: 3})
	mayBe(t, p, api.Task{Period: 20, Cycles: 3, Sec: []int{3}})
}

// P9.1: the zero task may not be, on whatever machine; the least one may.
func TestCheckLeast(t *testing.T) {
	for _, horizon := range []int{1, 2, api.MaxHorizon} {
		p := machine(t, 0, 0, horizon)
		mayNotBe(t, p, api.Task{})
		mayNotBe(t, p, api.Task{Period: 1})
		mayNotBe(t, p, api.Task{Cycles: 1})
		mayBe(t, p, api.Task{Period: 1, Cycles: 1})
	}
}

// P9.1: Period is from 1 to the machine's Horizon.
func TestCheckPeriod(t *testing.T) {
	for _, horizon := range []int{1, 2, 50, api.MaxHorizon - 1, api.MaxHorizon} {
		p := machine(t, 3, 3, horizon)
		for _, period := range []int{1, (horizon + 1) / 2, horizon} {
			x := right()
			x.Period = period
			mayBe(t, p, x)
		}
		wrong := append([]int{-1, 0, horizon + 1, horizon + 2, -horizon}, ends...)
		for _, period := range wrong {
			x := right()
			x.Period = period
			mayNotBe(t, p, x)
		}
	}
}

// P9.1: Period is held against this machine's Horizon, not against the
// greatest one.
func TestCheckPeriodOfMachine(t *testing.T) {
	x := api.Task{Period: 100, Cycles: 1}
	mayNotBe(t, machine(t, 0, 0, 99), x)
	mayBe(t, machine(t, 0, 0, 100), x)
	mayBe(t, machine(t, 0, 0, 101), x)
	x.Period = api.MaxHorizon
	mayNotBe(t, machine(t, 0, 0, 50), x)
	mayBe(t, machine(t, 0, 0, api.MaxHorizon), x)
}

// P9.1: Cycles are from 1 to MaxCycles.
func TestCheckCycles(t *testing.T) {
	p := machine(t, 3, 3, 50)
	for _, sec := range [][]int{nil, {0}, {0, 0, 0}} {
		for _, cycles := range []int{1, 2, 10, api.MaxCycles - 1, api.MaxCycles} {
			x := right()
			x.Cycles, x.Sec = cycles, sec
			mayBe(t, p, x)
		}
		wrong := append([]int{-1, 0, -api.MaxCycles, api.MaxCycles + 1, api.MaxCycles + 2}, ends...)
		for _, cycles := range wrong {
			x := right()
			x.Cycles, x.Sec = cycles, sec
			mayNotBe(t, p, x)
		}
	}
}

// P9.1: Cycles and Period have nothing to do with each other, nor has Cycles
// with the Horizon.
func TestCheckCyclesBesidePeriod(t *testing.T) {
	p := machine(t, 0, 0, 3)
	mayBe(t, p, api.Task{Period: 1, Cycles: api.MaxCycles})
	mayBe(t, p, api.Task{Period: 3, Cycles: 4})
	mayBe(t, machine(t, 0, 0, api.MaxHorizon), api.Task{Period: api.MaxHorizon, Cycles: 1})
}

// P9.1: there are at most as many numbers in Sec as the machine has Sems.
func TestCheckHowManySections(t *testing.T) {
	for sems := range api.MaxSems + 1 {
		p := machine(t, sems, 3, 50)
		for _, sec := range [][]int{nil, {}} {
			x := right()
			x.Sec = sec
			mayBe(t, p, x)
		}
		for n := range api.MaxSems + 4 {
			for _, cycles := range []int{0, 1, 10} {
				x := right()
				x.Sec = slices.Repeat([]int{cycles}, n)
				want := api.OK
				if n > sems {
					want = api.ErrTask
				}
				checkIs(t, p, x, want)
			}
		}
	}
}

// P9.1: each number in Sec is from 0 to Cycles, at each place.
func TestCheckSections(t *testing.T) {
	for _, cycles := range []int{1, 2, 10, api.MaxCycles} {
		for n := 1; n <= api.MaxSems; n++ {
			p := machine(t, n, 3, 50)
			for place := range n {
				x := right()
				x.Cycles, x.Sec = cycles, make([]int, n)
				for _, most := range []int{0, 1, cycles - 1, cycles} {
					x.Sec[place] = most
					mayBe(t, p, x)
				}
				wrong := append([]int{-1, cycles + 1, cycles + 2, api.MaxCycles + 1, -cycles}, ends...)
				for _, most := range wrong {
					x.Sec[place] = most
					mayNotBe(t, p, x)
				}
			}
		}
	}
}

// P9.1: all numbers in Sec may be as great as Cycles at once.
func TestCheckSectionsTogether(t *testing.T) {
	p := machine(t, 3, 0, 50)
	mayBe(t, p, api.Task{Period: 1, Cycles: 7, Sec: []int{7, 7, 7}})
	mayNotBe(t, p, api.Task{Period: 1, Cycles: 6, Sec: []int{7, 7, 7}})
	mayNotBe(t, p, api.Task{Period: 1, Cycles: 7, Sec: []int{7, 8, 7}})
	mayNotBe(t, p, api.Task{Period: 1, Cycles: 7, Sec: []int{7, -1, 7}})
}

// lists are all lists of up to so many numbers, each from low to high.
func lists(most, low, high int) [][]int {
	all, longest := [][]int{{}}, [][]int{{}}
	for range most {
		var longer [][]int
		for _, list := range longest {
			for n := low; n <= high; n++ {
				longer = append(longer, append(slices.Clone(list), n))
			}
		}
		all, longest = append(all, longer...), longer
	}
	return all
}

// P9.1: Devs are the machine's devices, each greater than the one ahead of it:
// all lists of up to four small numbers, on machines of 0 to 3 devices.
func TestCheckDevices(t *testing.T) {
	for devices, wanted := range []int{1, 2, 4, 8} {
		p := machine(t, 3, devices, 50)
		held := 0
		for _, list := range lists(4, -1, 4) {
			x := api.Task{Period: 20, Cycles: 10, Sec: []int{3, 0, 5}, Devs: list}
			want := plainCheck(p, x)
			checkIs(t, p, x, want)
			if want == api.OK {
				held++
			}
		}
		if held != wanted {
			t.Errorf("of %d devices %d lists may be, not %d", devices, held, wanted)
		}
	}
}

// P9.1: Devs by hand: none, all, one too low, one too
// high, two alike, a lesser one behind a greater one.
func TestCheckDevicesByHand(t *testing.T) {
	p := machine(t, 3, 3, 50)
	for _, devs := range [][]int{nil, {}, {0}, {1}, {2}, {0, 1}, {0, 2}, {1, 2}, {0, 1, 2}} {
		x := right()
		x.Devs = devs
		mayBe(t, p, x)
	}
	for _, devs := range [][]int{
		{-1}, {-1, 0}, {-1, 0, 1}, {0, -1}, {0, 1, -1},
		{3}, {0, 3}, {0, 1, 3}, {0, 1, 2, 3}, {3, 0},
		{0, 0}, {2, 2}, {0, 0, 1}, {0, 1, 1}, {0, 1, 2, 2}, {0, 1, 0},
		{1, 0}, {2, 1}, {1, 0, 2}, {0, 2, 1}, {2, 1, 0}, {1, 2, 0}, {0, 1, 2, 0},
	} {
		x := right()
		x.Devs = devs
		mayNotBe(t, p, x)
	}
	bare := machine(t, 3, 0, 50)
	for _, devs := range [][]int{nil, {}} {
		x := right()
		x.Devs = devs
		mayBe(t, bare, x)
	}
	for _, devs := range [][]int{{0}, {-1}, {1}, {0, 1, 2}} {
		x := right()
		x.Devs = devs
		mayNotBe(t, bare, x)
	}
}

// P9.1: numbers at the ends of int are no devices, at whatever place.
func TestCheckDevicesAtEnds(t *testing.T) {
	p := machine(t, 3, 3, 50)
	for _, end := range ends {
		for _, devs := range [][]int{{end}, {end, 1}, {0, end}, {0, 1, end}, {0, end, 2}, {end, end}} {
			x := right()
			x.Devs = devs
			mayNotBe(t, p, x)
		}
	}
	for _, devs := range [][]int{{math.MinInt, math.MaxInt}, {math.MaxInt, math.MinInt}, {math.MaxInt, 0}} {
		x := right()
		x.Devs = devs
		mayNotBe(t, p, x)
	}
}

// faults are ways to make one thing of a task that may be wrong.
func faults() []func(x *api.Task) {
	return []func(x *api.Task){
		func(x *api.Task) { x.Period = 0 },
		func(x *api.Task) { x.Period = 51 },
		func(x *api.Task) { x.Cycles = 0 },
		func(x *api.Task) { x.Cycles = api.MaxCycles + 1 },
		func(x *api.Task) { x.Sec[0] = -1 },
		func(x *api.Task) { x.Sec[1] = math.MaxInt },
		func(x *api.Task) { x.Sec = append(x.Sec, 0) },
		func(x *api.Task) { x.Devs[0] = -1 },
		func(x *api.Task) { x.Devs[1] = 0 },
		func(x *api.Task) { x.Devs[2] = 3 },
	}
}

// P9.1: several things wrong at once: one, and all choices of them, and no
// fault takes another one back.
func TestCheckSeveralFaults(t *testing.T) {
	p := machine(t, 3, 3, 50)
	all := faults()
	for chosen := range 1 << len(all) {
		x := right()
		for i, fault := range all {
			if chosen>>i&1 == 1 {
				fault(&x)
			}
		}
		want := api.ErrTask
		if chosen == 0 {
			want = api.OK
		}
		checkIs(t, p, x, want)
	}
}

// randomMachine is a machine that may be.
func randomMachine(t *testing.T, r *rand.Rand) api.Platform {
	t.Helper()
	horizon := 1 + r.IntN(12)
	if r.IntN(4) == 0 {
		horizon = 1 + r.IntN(api.MaxHorizon)
	}
	return machine(t, r.IntN(api.MaxSems+1), r.IntN(api.MaxDevices+1), horizon)
}

// randomTask is a task whose numbers are in their ranges, or just outside.
func randomTask(r *rand.Rand, p api.Platform) api.Task {
	x := api.Task{Period: r.IntN(p.Horizon+2) + r.IntN(2), Cycles: r.IntN(8)}
	if r.IntN(8) == 0 {
		x.Cycles = api.MaxCycles - 1 + r.IntN(3)
	}
	for range r.IntN(p.Sems + 2) {
		x.Sec = append(x.Sec, r.IntN(max(1, x.Cycles)+1))
		if r.IntN(8) == 0 {
			x.Sec[len(x.Sec)-1] = []int{-1, x.Cycles + 1}[r.IntN(2)]
		}
	}
	for d := range p.Devices {
		if r.IntN(2) == 0 {
			x.Devs = append(x.Devs, d)
		}
	}
	if len(x.Devs) > 0 && r.IntN(5) == 0 {
		x.Devs[r.IntN(len(x.Devs))] = r.IntN(len(p.Devices)+2) - 1
	}
	return x
}

// P9.1: many machines and tasks, against a plain look at each sentence.
func TestCheckMany(t *testing.T) {
	r := rand.New(rand.NewPCG(9, 1))
	seen := map[api.Errno]int{}
	for range 30000 {
		p := randomMachine(t, r)
		x := randomTask(r, p)
		want := plainCheck(p, x)
		seen[want]++
		checkIs(t, p, x, want)
	}
	if seen[api.OK] < 5000 || seen[api.ErrTask] < 5000 {
		t.Errorf("what was seen: %v", seen)
	}
}

// R1: Check answers of machines, too, that may not be, by their numbers.
func TestCheckOfOddMachines(t *testing.T) {
	for _, sems := range ends {
		for _, horizon := range ends {
			p := api.Platform{Sems: sems, Horizon: horizon, Crit: sems, Idle: horizon}
			for _, x := range []api.Task{
				{}, {Period: 1, Cycles: 1}, {Period: 1, Cycles: 1, Sec: []int{1}},
				{Period: math.MaxInt, Cycles: 1, Sec: []int{0, 0, 0, 0, 1}},
				{Period: 1, Cycles: 1, Devs: []int{0}},
			} {
				checkIs(t, p, x, plainCheck(p, x))
			}
		}
	}
	mayNotBe(t, api.Platform{}, api.Task{})
	mayNotBe(t, api.Platform{}, api.Task{Period: 1, Cycles: 1})
}

// usesIs holds Uses against what is wanted, twice, with spare room that would
// say otherwise, and the task against what it was.
func usesIs(t *testing.T, x api.Task, s int, want bool) {
	t.Helper()
	for _, filler := range []int{-1, 0, 5} {
		x := roomyTask(x, filler)
		taskStays(t, "Uses", &x, func() {
			for range 2 {
				if got := Uses(x, s); got != want {
					t.Fatalf("Uses(%+v, %d) is %v, not %v", x, s, got, want)
				}
			}
		})
	}
}

// P9.2: s is a place in Sec, and the number there is above 0.
func TestUses(t *testing.T) {
	x := api.Task{Period: 9, Cycles: 9, Sec: []int{2, 0, 1, -1, 9, math.MinInt, math.MaxInt, 1}, Devs: []int{1}}
	for s, want := range []bool{true, false, true, false, true, false, true, true, false, false, false} {
		usesIs(t, x, s, want)
	}
	for n := 1; n <= len(x.Sec); n++ {
		short := x
		short.Sec = x.Sec[:n:n]
		usesIs(t, short, n-1, x.Sec[n-1] > 0)
		usesIs(t, short, n, false)
		usesIs(t, short, n+1, false)
		usesIs(t, short, 0, true)
		usesIs(t, short, -1, false)
		usesIs(t, short, -n, false)
		for _, s := range ends {
			usesIs(t, short, s, false)
		}
	}
}

// P9.2: just 0 is not above 0, and 1 is, at the first and at the last place.
func TestUsesAroundZero(t *testing.T) {
	for _, number := range []int{math.MinInt, -2, -1, 0, 1, 2, api.MaxCycles + 1, math.MaxInt} {
		usesIs(t, api.Task{Sec: []int{number}}, 0, number > 0)
		usesIs(t, api.Task{Sec: []int{number, 0}}, 0, number > 0)
		usesIs(t, api.Task{Sec: []int{1, 1, number}}, 2, number > 0)
	}
}

// P9.2: without numbers in Sec nothing is used, whatever the devices are.
func TestUsesWithoutSections(t *testing.T) {
	for _, sec := range [][]int{nil, {}} {
		x := api.Task{Period: 5, Cycles: 5, Sec: sec, Devs: []int{0, 1, 2}}
		for _, s := range append([]int{-1, 0, 1, 2, 3, 5}, ends...) {
			usesIs(t, x, s, false)
		}
	}
}

// needsIs holds Needs against what is wanted, twice, with spare room that has
// what is looked for, and the task against what it was.
func needsIs(t *testing.T, x api.Task, d int, want bool) {
	t.Helper()
	for _, filler := range []int{d, 0, math.MaxInt} {
		x := roomyTask(x, filler)
		taskStays(t, "Needs", &x, func() {
			for range 2 {
				if got := Needs(x, d); got != want {
					t.Fatalf("Needs(%+v, %d) is %v, not %v", x, d, got, want)
				}
			}
		})
	}
}

// P9.2: d stands first, between, last and nowhere, in lists of each kind.
func TestNeeds(t *testing.T) {
	for _, devs := range [][]int{
		{0, 1, 2}, {3, 5, 9}, {7}, {9, 3, 5}, {5, 3, 1}, {2, 2}, {4, 1, 4, 1}, {0, 0, 0, 8},
		{-1}, {3, -2, 3}, {math.MaxInt, math.MinInt, 0},
	} {
		x := api.Task{Period: 4, Cycles: 6, Sec: []int{4, 6}, Devs: devs}
		for _, d := range devs {
			needsIs(t, x, d, true)
		}
		for _, d := range append([]int{-3, -1, 0, 1, 2, 3, 4, 5, 6, 7, 8, 9, 10}, ends...) {
			there := false
			for _, one := range devs {
				there = there || one == d
			}
			needsIs(t, x, d, there)
		}
	}
}

// P9.2: a task without Devs needs none, whatever its other numbers are.
func TestNeedsWithoutDevices(t *testing.T) {
	for _, devs := range [][]int{nil, {}} {
		x := api.Task{Period: 1, Cycles: 2, Sec: []int{0, 1, 2, 3}, Devs: devs}
		for _, d := range append([]int{-1, 0, 1, 2, 3}, ends...) {
			needsIs(t, x, d, false)
		}
	}
}

// samples are tasks with lists that are nil, empty and full, such as may be
// and such as may not.
func samples() []api.Task {
	var all []api.Task
	for _, sec := range [][]int{nil, {}, {0}, {3, 0, 5}, {-1, math.MinInt, math.MaxInt, 2, 2}} {
		for _, devs := range [][]int{nil, {}, {2}, {0, 1, 2}, {9, 9, -9, math.MaxInt, math.MinInt, 0}} {
			for _, n := range []int{0, 7, -1, math.MinInt, math.MaxInt} {
				all = append(all, api.Task{Period: n, Cycles: n / 2, Sec: sec, Devs: devs})
			}
		}
	}
	return all
}

// same says whether two tasks are the same; nil and empty lists are.
func same(a, b api.Task) bool {
	return a.Period == b.Period && a.Cycles == b.Cycles && slices.Equal(a.Sec, b.Sec) && slices.Equal(a.Devs, b.Devs)
}

// scribble changes each number of a list, and all of its spare room.
func scribble(list []int, by int) {
	list = list[:cap(list)]
	for i := range list {
		list[i] ^= by
	}
}

// scribbleTask changes each number of a task's lists, and all of their spare
// room.
func scribbleTask(x api.Task, by int) {
	scribble(x.Sec, by)
	scribble(x.Devs, by)
}

// P9.2: Own is the same task, and leaves the one it was handed as it was.
func TestOwn(t *testing.T) {
	for _, sample := range samples() {
		x := roomyTask(sample, 66)
		taskStays(t, "Own", &x, func() {
			for range 2 {
				if got := Own(x); !same(got, sample) {
					t.Fatalf("Own(%+v) is %+v", x, got)
				}
			}
		})
	}
}

// P9.2, R4: what is changed in an answer leaves the task and another answer as
// they were; what is changed in the task leaves the answers.
func TestOwnSharesNothing(t *testing.T) {
	for _, sample := range samples() {
		x := roomyTask(sample, 66)
		one, two := Own(x), Own(x)
		taskStays(t, "a change of an answer", &x, func() {
			taskStays(t, "a change of another answer", &two, func() { scribbleTask(one, 1<<20) })
		})
		taskStays(t, "a change of the task", &two, func() { scribbleTask(x, 1<<21) })
		if !same(two, sample) {
			t.Fatalf("Own(%+v) has become %+v", sample, two)
		}
		scribbleTask(x, 1<<21)
		if again := Own(x); !same(again, sample) {
			t.Fatalf("Own(%+v) is now %+v", sample, again)
		}
	}
}

// P9.2, R4: what is appended to a list of an answer, or written to all of its
// room, leaves the other list, other answers, and the task's spare room.
func TestOwnAppended(t *testing.T) {
	for _, sample := range samples() {
		x := roomyTask(sample, 66)
		one, two := Own(x), Own(x)
		taskStays(t, "an append to an answer", &x, func() {
			taskStays(t, "an append to another answer", &two, func() {
				sec := append(one.Sec, 1, 2, 3)
				if !slices.Equal(one.Devs, sample.Devs) {
					t.Fatalf("an append to Sec of Own(%+v) has changed Devs: %v", sample, one.Devs)
				}
				devs := append(one.Devs, 4, 5, 6)
				if !slices.Equal(sec, append(slices.Clone(sample.Sec), 1, 2, 3)) ||
					!slices.Equal(devs, append(slices.Clone(sample.Devs), 4, 5, 6)) {
					t.Fatalf("appends to the lists of Own(%+v): %v, %v", sample, sec, devs)
				}
			})
		})
		scribble(two.Sec, 1<<22)
		if !slices.Equal(two.Devs, sample.Devs) {
			t.Fatalf("the room of Sec of Own(%+v) is that of Devs: %v", sample, two.Devs)
		}
	}
}

// P9.2, R4: two lists of a task that share their memory share none in Own.
func TestOwnOfSharedLists(t *testing.T) {
	memory := []int{0, 1, 2, 3, 4}
	x := api.Task{Period: 3, Cycles: 4, Sec: memory[:3], Devs: memory[1:4]}
	own := Own(x)
	scribble(own.Sec, 1<<20)
	if !slices.Equal(own.Devs, []int{1, 2, 3}) || !slices.Equal(memory, []int{0, 1, 2, 3, 4}) {
		t.Fatalf("a change of Sec: Devs is %v, the task's memory %v", own.Devs, memory)
	}
}

// ceilingIs holds Ceiling against what is wanted, twice, and the tasks, their
// lists and all spare room against what they were. What stands in the spare
// room would use each semaphore, with the least Period there is.
func ceilingIs(t *testing.T, tasks []api.Task, s, want int) {
	t.Helper()
	hidden := api.Task{Period: math.MinInt, Cycles: 1, Sec: []int{1, 1, 1, 1, 1, 1, 1, 1}}
	list := roomy(tasks, hidden)
	for i := range list {
		list[i] = roomyTask(list[i], 1)
	}
	var was, wasWhole []api.Task
	for _, x := range list[:cap(list)] {
		was, wasWhole = append(was, x), append(wasWhole, wholeTask(x))
	}
	for range 2 {
		if got := Ceiling(list, s); got != want {
			t.Fatalf("Ceiling(%+v, %d) is %d, not %d", list, s, got, want)
		}
		if len(list) != len(tasks) || !reflect.DeepEqual(list[:cap(list)], was) {
			t.Fatalf("Ceiling has changed the tasks that it was handed: %+v", list)
		}
		for i, x := range list[:cap(list)] {
			if !reflect.DeepEqual(wholeTask(x), wasWhole[i]) {
				t.Fatalf("Ceiling has changed a task that it was handed: %+v", x)
			}
		}
	}
}

// user is a task with a Period, and these numbers in Sec.
func user(period int, sec ...int) api.Task {
	return api.Task{Period: period, Cycles: 3, Sec: sec, Devs: []int{0, 1}}
}

// P9.3: the chapter's second example.
func TestCeilingExample(t *testing.T) {
	ceilingIs(t, []api.Task{user(20, 1), user(30, 1)}, 0, 20)
	ceilingIs(t, []api.Task{user(30, 1), user(20, 1)}, 0, 20)
}

// P9.3: of no tasks, and of tasks that do not use s, it is Never.
func TestCeilingWithoutUsers(t *testing.T) {
	for _, tasks := range [][]api.Task{
		nil, {}, {{}}, {user(5)}, {user(5, 0)}, {user(5, -1, 0, 0)}, {user(5), user(6, 0), user(1, -7)},
		{{Period: 3, Devs: []int{0, 1, 2}}},
	} {
		for _, s := range append([]int{-1, 0, 1, 2, 3}, ends...) {
			ceilingIs(t, tasks, s, api.Never)
		}
	}
}

// P9.3: of one task that uses s it is its Period, at each place of s and of
// the task.
func TestCeilingOfOneUser(t *testing.T) {
	others := []api.Task{user(4), user(3, 0, 0, 0), user(2, -1, -1, -1)}
	for s := range 3 {
		sec := make([]int, s+1)
		sec[s] = 1
		ceilingIs(t, []api.Task{user(17, sec...)}, s, 17)
		for place := range len(others) + 1 {
			ceilingIs(t, slices.Insert(slices.Clone(others), place, user(17, sec...)), s, 17)
		}
		ceilingIs(t, []api.Task{user(17, sec...)}, s+1, api.Never)
		ceilingIs(t, []api.Task{user(17, sec...)}, s-1, api.Never)
	}
}

// P9.3: the least Period stands first, between and last; there are several.
func TestCeilingOfSeveralUsers(t *testing.T) {
	for place := range 5 {
		tasks := []api.Task{user(40, 1), user(30, 2), user(25, 1), user(35, 3)}
		ceilingIs(t, slices.Insert(tasks, place, user(10, 1)), 0, 10)
	}
	ceilingIs(t, []api.Task{user(8, 1), user(8, 1), user(8, 1)}, 0, 8)
	ceilingIs(t, []api.Task{user(9, 1), user(8, 1), user(8, 1), user(9, 1)}, 0, 8)
	ceilingIs(t, []api.Task{user(1, 1), user(api.MaxHorizon, 1)}, 0, 1)
}

// P9.3: a task with a lesser Period that does not use s does not count.
func TestCeilingBesideLesserPeriod(t *testing.T) {
	for place := range 3 {
		for _, other := range []api.Task{user(5), user(5, 0), user(5, -1), user(5, 0, 1), user(5, 0, 3, 3)} {
			tasks := slices.Insert([]api.Task{user(20, 1), user(30, 1)}, place, other)
			ceilingIs(t, tasks, 0, 20)
		}
	}
	tasks := []api.Task{user(20, 1, 0, 2), user(30, 1, 1), user(5, 0, 0, 1), user(50, 0, 4)}
	for s, want := range []int{20, 30, 5, api.Never} {
		ceilingIs(t, tasks, s, want)
	}
}

// P9.3: Periods just at Never, beyond it, of 0, below 0 and at the ends of
// int.
func TestCeilingOfOddPeriods(t *testing.T) {
	odd := append([]int{
		api.Never - 1, api.Never, api.Never + 1, 2 * api.Never, -api.Never, -1, 0, 1, api.MaxHorizon + 1,
	}, ends...)
	for _, period := range odd {
		ceilingIs(t, []api.Task{user(period, 1)}, 0, min(period, api.Never))
		ceilingIs(t, []api.Task{user(period, 0)}, 0, api.Never)
		for _, other := range odd {
			ceilingIs(t, []api.Task{user(period, 1), user(other, 1)}, 0, min(period, other, api.Never))
			ceilingIs(t, []api.Task{user(period, 0, 1), user(other, 1)}, 0, min(other, api.Never))
		}
	}
}

// P9.3: an s below 0, and beyond every Sec, is used by nobody.
func TestCeilingOfNoSemaphore(t *testing.T) {
	tasks := []api.Task{user(20, 1, 1, 1), user(30, 1, 1, 1, 1), user(10, 1)}
	for s, want := range []int{10, 20, 20, 30, api.Never, api.Never} {
		ceilingIs(t, tasks, s, want)
	}
	for _, s := range append([]int{-1, -3}, ends...) {
		ceilingIs(t, tasks, s, api.Never)
	}
}

// plainCeiling looks at each task: the Period of one that uses s is taken, if
// no other one that does has a lesser one.
func plainCeiling(tasks []api.Task, s int) int {
	var periods []int
	for _, x := range tasks {
		for place, cycles := range x.Sec {
			if place == s && cycles > 0 {
				periods = append(periods, x.Period)
			}
		}
	}
	slices.Sort(periods)
	if len(periods) == 0 || periods[0] > api.Never {
		return api.Never
	}
	return periods[0]
}

// randomPeriod is a small one, or one around Never, or any number.
func randomPeriod(r *rand.Rand) int {
	switch r.IntN(8) {
	case 0:
		return api.Never - 1 + r.IntN(3)
	case 1:
		return int(r.Uint64())
	}
	return r.IntN(30) - 2
}

// P9.2, P9.3: many lists, also of tasks that may not be, against a plain look
// at each task.
func TestCeilingMany(t *testing.T) {
	r := rand.New(rand.NewPCG(9, 3))
	seen := map[string]int{}
	for range 20000 {
		var tasks []api.Task
		for range r.IntN(10) {
			x := api.Task{Period: randomPeriod(r), Cycles: r.IntN(9) - 2}
			for range r.IntN(5) {
				x.Sec = append(x.Sec, r.IntN(5)-2)
			}
			tasks = append(tasks, x)
		}
		s := r.IntN(7) - 1
		want := plainCeiling(tasks, s)
		ceilingIs(t, tasks, s, want)
		seen[fmt.Sprint("Never ", want == api.Never)]++
		seen[fmt.Sprint("below 0 ", want < 0)]++
		for _, x := range tasks {
			usesIs(t, x, s, plainCeiling([]api.Task{{Sec: x.Sec}}, s) == 0)
		}
	}
	for _, kind := range []string{"Never true", "Never false", "below 0 true", "below 0 false"} {
		if seen[kind] < 1000 {
			t.Errorf("only %d of %q", seen[kind], kind)
		}
	}
}
