package kern

import (
	"slices"
	"testing"

	"dormouse/api"
	"dormouse/dev"
	"dormouse/meter"
)

// eighths is a task that may ask for so many of each 8 quanta: without a job
// of it the CPU has to be there 8 less that many quanta later.
func eighths(n int) api.Task { return api.Task{Period: 8, Cycles: n} }

// The CPU sleeps in the state that costs least for as long as it may, again
// and again; for too short a time it idles, and without leave always.
func TestSleepsAgain(t *testing.T) {
	for cycles, once := range map[int][]api.Interval{
		1: {entered(1, 2), slept(1, 2), left(1, 3)},
		2: {entered(1, 2), slept(1, 1), left(1, 3)},
		3: {entered(0, 1), slept(0, 2), left(0, 2)},
		4: {entered(0, 1), slept(0, 1), left(0, 2)},
		5: {idled(3)},
		6: {idled(2)},
		7: {idled(1)},
	} {
		stay := 8 - cycles
		b := told(t, sleeping(), admits(eighths(cycles)), policy(api.Full, 1), ticks(4*stay))
		want := slices.Repeat(once, 4)
		if once[0].Kind == api.Idle {
			want = []api.Interval{idled(4 * stay)}
		}
		b.did(t, want...)
		b = told(t, sleeping(), admits(eighths(cycles)), policy(api.Full, 0), ticks(4*stay))
		b.did(t, idled(4*stay))
	}
}

// Without tasks the CPU sleeps for MaxNap quanta.
func TestSleepsLongest(t *testing.T) {
	b := told(t, sleeping(), policy(api.Full, 1), ticks(2100))
	b.did(t, entered(1, 2), slept(1, 1019), left(1, 3), entered(1, 2), slept(1, 1019), left(1, 3), entered(1, 2), slept(1, 50))
	if got := b.k.Meter(); got != (meter.Meter{Sleep: 3*4 + 2*6 + 1019 + 1019 + 50}) {
		t.Errorf("the meter is %+v", got)
	}
}

// One ahead of Wake less Exit, at it, and behind the Exit.
func TestWakes(t *testing.T) {
	b := told(t, sleeping(), admits(eighths(1)), policy(api.Full, 1)) // Wake is 7
	for _, one := range []struct {
		now    int
		asleep bool
		did    []api.Interval
	}{
		{2, true, []api.Interval{entered(1, 2)}},
		{3, true, []api.Interval{entered(1, 2), slept(1, 1)}},
		{4, true, []api.Interval{entered(1, 2), slept(1, 2)}},
		{7, false, []api.Interval{entered(1, 2), slept(1, 2), left(1, 3)}},
		{9, true, []api.Interval{entered(1, 2), slept(1, 2), left(1, 3), entered(1, 2)}},
	} {
		b.takes(t, ticks(1))
		number(t, "Now", b.k.Now(), one.now)
		if b.k.Asleep() != one.asleep {
			t.Errorf("at %d asleep is %v", one.now, b.k.Asleep())
		}
		b.did(t, one.did...)
	}
}

// A state whose ways in and out are all of the stay, and one that has none.
func TestSleepsShortly(t *testing.T) {
	m := sleeping()
	m.Sleeps = []api.Sleep{{Power: 5, Enter: 2, Exit: 2, Even: 4}}
	b := told(t, m, admits(eighths(4)), policy(api.Full, 1), ticks(8))
	b.did(t, entered(0, 2), left(0, 2), entered(0, 2), left(0, 2))
	m.Sleeps = []api.Sleep{{Power: 4, Even: 1, EnterE: 1}}
	b = told(t, m, admits(eighths(6)), policy(api.Full, 1), ticks(1))
	if !b.k.Asleep() {
		t.Error("the CPU is not asleep")
	}
	b.did(t, entered(0, 0), slept(0, 1))
	b.takes(t, ticks(4))
	b.did(t, entered(0, 0), slept(0, 2), left(0, 0), entered(0, 0), slept(0, 2), left(0, 0), entered(0, 0), slept(0, 1))
	if got := b.k.Meter(); got != (meter.Meter{Sleep: 3 + 5*4}) {
		t.Errorf("the meter is %+v", got)
	}
}

// A job that comes while the CPU is asleep waits till it is there again: Wake
// stays what it was. It has finished by its deadline.
func TestJobWhileAsleep(t *testing.T) {
	for after := range 4 {
		b := told(t, sleeping(), admits(eighths(1)), policy(api.Full, 1), ticks(1))
		b.takes(t, arrives(0, after, 1), ticks(6))
		at := 2 + after
		b.did(t, entered(1, 2), slept(1, 2), left(1, 3), ran(0, 0, 1, 1))
		b.events(t, released(0, at, at+8), finished(0, 8, at+8))
	}
	// A job that is to come lets it sleep longer, as long as it is no later.
	b := told(t, sleeping(), admits(eighths(1)), policy(api.Full, 1), arrives(0, 30, 1), ticks(37))
	b.did(t, entered(1, 2), slept(1, 32), left(1, 3))
	b.takes(t, ticks(1))
	b.events(t, released(0, 30, 38), finished(0, 38, 38))
}

// Behind its last job the CPU goes to sleep; ahead of it, it does not.
func TestSleepsBehindJob(t *testing.T) {
	b := told(t, sleeping(), admits(api.Task{Period: 16, Cycles: 4}), policy(api.Full, 1), arrives(0, 0, 4), ticks(10))
	b.did(t, ran(0, 0, 4, 4), entered(1, 2), slept(1, 4))
	b.takes(t, ticks(30)) // the next job may come at 16: it is there at 16 + 12
	b.did(t, ran(0, 0, 4, 4), entered(1, 2), slept(1, 19), left(1, 3), entered(1, 2), slept(1, 7), left(1, 3))
}

// A cycle takes the level's P, and its E.
func TestRuns(t *testing.T) {
	for pace := 1; pace < 9; pace++ {
		m := bare(900)
		m.Levels[0] = api.Level{P: pace, E: 10 * pace}
		b := told(t, m, admits(api.Task{Period: 90, Cycles: 7}), arrives(0, 0, 4), ticks(3*pace))
		b.did(t, ran(0, 0, 3*pace, 3))
		if got := b.k.Jobs(); !slices.Equal(got, []api.Job{{Deadline: 90, Left: 4, Real: 1, Started: true}}) {
			t.Errorf("the jobs are %+v", got)
		}
		b.takes(t, ticks(1))
		b.did(t, ran(0, 0, 4*pace, 4))
		b.events(t, released(0, 0, 90), finished(0, 4*pace, 90))
		if got := b.k.Meter(); got != (meter.Meter{Run: 40 * pace}) {
			t.Errorf("the meter is %+v", got)
		}
	}
}

// A job that is done with its last cycle has Finished, one that is not is Cut:
// used tells how many cycles it had.
func TestEnds(t *testing.T) {
	for cycles := 1; cycles < 9; cycles++ {
		b := told(t, bare(100), admits(api.Task{Period: 50, Cycles: 5}), admits(api.Task{Period: 80, Cycles: 1}), ticks(1), arrives(0, 0, cycles), arrives(1, 0, 1))
		number(t, "Used", b.k.Used(0), 5)
		b.takes(t, ticks(20))
		had := min(cycles, 5)
		how := finished(0, 1+had, 51)
		if cycles > 5 {
			how = cut(0, 1+had, 51)
		}
		b.events(t, released(0, 1, 51), released(1, 1, 81), how, finished(1, 2+had, 81))
		b.did(t, idled(1), ran(0, 0, had, had), ran(1, 0, 1, 1), idled(19-had))
		number(t, "Used", b.k.Used(0), had)
		b.takes(t, arrives(0, 40, 2))
		number(t, "Used", b.k.Used(0), had)
		b.takes(t, ticks(40))
		number(t, "Used", b.k.Used(0), 5)
	}
}

// The earliest deadline first, of one deadline the least task; one that is
// more urgent goes ahead of one that has begun.
func TestMostUrgentFirst(t *testing.T) {
	b := begin(t, bare(200))
	for _, period := range []int{60, 40, 40, 20} {
		b.takes(t, admits(api.Task{Period: period, Cycles: 4}))
	}
	b.takes(t, arrives(0, 0, 4), arrives(2, 0, 4), arrives(1, 0, 4), arrives(3, 2, 4), ticks(16))
	b.did(t, ran(1, 0, 2, 2), ran(3, 0, 4, 4), ran(1, 0, 2, 2), ran(2, 0, 4, 4), ran(0, 0, 4, 4))
	b.takes(t, ticks(50))
	b.takes(t, arrives(1, 0, 4), ticks(2), arrives(2, 0, 4), ticks(4))
	want := []api.Interval{{Kind: api.Run, From: 66, Len: 4, Task: 1, Cycles: 4}, {Kind: api.Run, From: 70, Len: 2, Task: 2, Cycles: 2}}
	if got := b.k.Trace(); !slices.Equal(got[len(got)-2:], want) {
		t.Errorf("the trace ends with %v", got[len(got)-2:])
	}
}

// The level that is chosen when a job begins, by each policy: what all tasks
// would need, or what there is time for.
func TestLevels(t *testing.T) {
	for _, one := range []struct {
		cycles int
		levels [4]int // by policies
	}{
		{5, [4]int{0, 2, 2, 2}},
		{12, [4]int{0, 1, 2, 1}},
		{13, [4]int{0, 1, 1, 1}},
		{17, [4]int{0, 1, 1, 1}},
		{18, [4]int{0, 0, 1, 0}},
		{20, [4]int{0, 0, 0, 0}},
	} {
		for p, level := range one.levels {
			b := told(t, slowing(), admits(api.Task{Period: 40, Cycles: one.cycles}), policy(p, 0), arrives(0, 0, one.cycles), ticks(40))
			number(t, "Level", b.k.Level(), level)
			pace := b.p.machine.Levels[level].P
			quanta, from := one.cycles*pace, 0
			want := []api.Interval{ran(0, level, quanta, one.cycles)}
			if level > 0 {
				from = 1
				want = slices.Insert(want, 0, switched(level, 1))
			}
			if rest := 40 - quanta - from; rest > 0 {
				want = append(want, idled(rest))
			}
			b.did(t, want...)
			b.events(t, released(0, 0, 40), finished(0, from+quanta, 40))
		}
	}
}

// Saving: what a task's last job did not ask for lets others run slower, till
// its next job is there.
func TestSaving(t *testing.T) {
	a, c := api.Task{Period: 40, Cycles: 8}, api.Task{Period: 80, Cycles: 10}
	for p, level := range map[int]int{api.Static: 1, api.Saving: 2} {
		b := told(t, slowing(), admits(a), admits(c), policy(p, 0), arrives(0, 0, 2), arrives(1, 0, 10), ticks(5))
		b.did(t, switched(1, 1), ran(0, 1, 4, 2))
		b.takes(t, ticks(1))
		number(t, "Level", b.k.Level(), level)
	}
	// Its next job asks for all that it may.
	b := told(t, slowing(), admits(a), admits(c), policy(api.Saving, 0), arrives(0, 0, 2), ticks(41), arrives(0, 0, 8), arrives(1, 0, 10), ticks(1))
	number(t, "Used", b.k.Used(0), 8)
	number(t, "Level", b.k.Level(), 1)
}

// A Switch is a step of its own: what comes meanwhile may be more urgent, and
// has a level of its own. There is no time for another Switch then: that it
// stays at the level that the CPU has takes none.
func TestSwitchIsAStep(t *testing.T) {
	m := slowing()
	m.Switch = 4
	low, high := api.Task{Period: 200, Cycles: 5}, api.Task{Period: 30, Cycles: 8}
	b := told(t, m, policy(api.Lazy, 0), admits(low), admits(high), arrives(0, 0, 5), arrives(1, 3, 8), ticks(1))
	b.did(t, switched(2, 4))
	number(t, "Level", b.k.Level(), 2)
	if got := b.k.Stack(); !slices.Equal(got, []int{0}) {
		t.Errorf("the stack is %v", got)
	}
	b.events(t, released(0, 0, 200), released(1, 3, 33))
	b.takes(t, ticks(40))
	b.did(t, switched(2, 4), ran(1, 2, 24, 8), ran(0, 2, 15, 5), idled(1))
	b.events(t, released(0, 0, 200), released(1, 3, 33), finished(1, 28, 33), finished(0, 43, 200))
}

// A Switch of no quanta takes no time, and is told.
func TestQuickSwitch(t *testing.T) {
	m := slowing()
	m.Switch = 0
	b := told(t, m, policy(api.Lazy, 0), admits(api.Task{Period: 40, Cycles: 2}), arrives(0, 0, 2), ticks(1))
	b.did(t, switched(2, 0), ran(0, 2, 3, 1))
	if got := b.k.Meter(); got != (meter.Meter{Switch: 5, Run: 3}) {
		t.Errorf("the meter is %+v", got)
	}
}

// interrupted is a machine on which a job of task 0 has had two cycles, and
// one of task 1 has begun, and has one cycle yet. The policies are those that
// are there when they begin.
func interrupted(t *testing.T, first, second int) *pair {
	t.Helper()
	b := told(t, slowing(), policy(first, 0), admits(api.Task{Period: 200, Cycles: 9, Sec: []int{1}}), admits(api.Task{Period: 60, Cycles: 2}), arrives(0, 0, 5))
	for len(b.k.Trace()) == 0 || b.k.Trace()[len(b.k.Trace())-1].Cycles < 2 {
		b.takes(t, ticks(1))
	}
	b.takes(t, policy(second, 0), arrives(1, 0, 2))
	for b.k.Jobs()[0].Left > 1 {
		b.takes(t, ticks(1))
	}
	return b
}

// The level is chosen when a job begins, and anew for one that has begun when
// another one has ended, Finished or Cut; at no other time.
func TestWhenLevelIsChosen(t *testing.T) {
	full, lazy := api.Full, api.Lazy
	for _, one := range []struct {
		first, second, third int
		want                 []api.Interval
	}{
		{full, full, full, []api.Interval{ran(0, 0, 2, 2), ran(1, 0, 2, 2), ran(0, 0, 3, 3), idled(1)}},
		{full, full, lazy, []api.Interval{ran(0, 0, 2, 2), ran(1, 0, 2, 2), switched(2, 1), ran(0, 2, 9, 3), idled(1)}},
		{full, lazy, full, []api.Interval{ran(0, 0, 2, 2), switched(2, 1), ran(1, 2, 6, 2), switched(0, 1), ran(0, 0, 3, 3), idled(1)}},
		{full, lazy, lazy, []api.Interval{ran(0, 0, 2, 2), switched(2, 1), ran(1, 2, 6, 2), ran(0, 2, 9, 3), idled(1)}},
		{lazy, full, lazy, []api.Interval{switched(2, 1), ran(0, 2, 6, 2), switched(0, 1), ran(1, 0, 2, 2), switched(2, 1), ran(0, 2, 9, 3), idled(1)}},
		{lazy, lazy, full, []api.Interval{switched(2, 1), ran(0, 2, 6, 2), ran(1, 2, 6, 2), switched(0, 1), ran(0, 0, 3, 3), idled(1)}},
	} {
		b := interrupted(t, one.first, one.second)
		b.takes(t, policy(one.third, 0))
		for len(b.k.Jobs()) > 1 || b.k.Jobs()[0].Left > 5 { // task 0 has gone on
			b.takes(t, ticks(1))
		}
		// Whatever the policy is then, the level stays.
		b.takes(t, policy(full+lazy-one.third, 0))
		for len(b.k.Jobs()) > 0 {
			b.takes(t, ticks(1))
		}
		b.takes(t, ticks(1))
		b.did(t, one.want...)
	}
}

// A job that is Over is cut, and no level is chosen for it, though another one
// has ended. What has begun ahead of it has a level chosen then.
func TestOverIsCut(t *testing.T) {
	b := told(t, slowing(), admits(api.Task{Period: 200, Cycles: 9, Sec: []int{1}}), admits(api.Task{Period: 60, Cycles: 2}), arrives(0, 0, 9), ticks(2), takesSem(0), ticks(1))
	b.takes(t, policy(api.Lazy, 0), arrives(1, 0, 2), ticks(7), policy(api.Full, 0))
	b.did(t, ran(0, 0, 3, 3), switched(2, 1), ran(1, 2, 6, 2))
	b.takes(t, ticks(1))
	b.did(t, ran(0, 0, 3, 3), switched(2, 1), ran(1, 2, 6, 2), idled(1))
	b.events(t, released(0, 0, 200), released(1, 3, 63), finished(1, 10, 63), cut(0, 10, 200))
	number(t, "Level", b.k.Level(), 2)

	// Task 1 holds it too long; task 0 goes on behind it, with a level anew.
	b = told(t, slowing(), admits(api.Task{Period: 200, Cycles: 9}), admits(api.Task{Period: 60, Cycles: 4, Sec: []int{1}}), arrives(0, 0, 9), ticks(2), arrives(1, 0, 4), ticks(1), takesSem(0), ticks(1))
	b.takes(t, policy(api.Lazy, 0), ticks(2))
	b.did(t, ran(0, 0, 2, 2), ran(1, 0, 2, 2), switched(2, 1), ran(0, 2, 3, 1))
	b.events(t, released(0, 0, 200), released(1, 2, 62), cut(1, 4, 62))
	if got := b.k.Stack(); !slices.Equal(got, []int{0}) {
		t.Errorf("the stack is %v", got)
	}
}

// A cut takes no time: there is a boundary behind it, at the same moment.
func TestBoundaryBehindCut(t *testing.T) {
	m := small()
	b := told(t, m, admits(api.Task{Period: 90, Cycles: 9, Sec: []int{1}, Devs: []int{0}}), arrives(0, 0, 9), ticks(1), takesSem(0), ticks(1))
	if got := b.k.Device(0); got != (dev.Dev{}) {
		t.Errorf("device 0 is %+v", got)
	}
	b.takes(t, ticks(1))
	b.events(t, released(0, 0, 90), cut(0, 2, 90))
	if got := b.k.Device(0); got != (dev.Dev{From: 2, Until: 90}) {
		t.Errorf("device 0 is %+v", got)
	}
	b.did(t, ran(0, 0, 2, 2), idled(1))
}

// A device stays on as long as a job needs it, and goes away when it has ended,
// till the next one may come; if that is too soon, it stays.
func TestDevices(t *testing.T) {
	for _, one := range []struct {
		period int
		goes   bool
	}{{10, false}, {12, false}, {13, true}, {30, true}} {
		b := told(t, spinning(spun), admits(api.Task{Period: one.period, Cycles: 4, Devs: []int{0}}), arrives(0, 0, 4))
		for range 3 {
			b.takes(t, ticks(1))
			if got := b.k.Device(0); got != (dev.Dev{}) {
				t.Errorf("at %d device 0 is %+v", b.k.Now(), got)
			}
		}
		b.takes(t, ticks(1))
		want := dev.Dev{}
		if one.goes {
			want = dev.Dev{From: 4, Until: one.period}
		}
		if got := b.k.Device(0); got != want {
			t.Errorf("of a Period of %d device 0 is %+v", one.period, got)
		}
	}
}

// A device that goes away is there again when the job comes for which it was
// latched, and not ahead of it.
func TestDeviceComesBack(t *testing.T) {
	b := told(t, spinning(spun), admits(api.Task{Period: 30, Cycles: 4, Devs: []int{0}}), arrives(0, 25, 4))
	want := []int{dev.Down, dev.Off, dev.Off, dev.Up, dev.Up, dev.On, dev.On}
	for i, now := range []int{0, 1, 22, 23, 24, 25, 28} {
		b.takes(t, ticks(now-b.k.Now()))
		x := b.k.Device(0)
		if got := dev.State(spun, x, now); got != want[i] || x != (dev.Dev{Until: 25}) {
			t.Errorf("at %d device 0 is %+v: %d", now, x, got)
		}
	}
	b.did(t, idled(25), ran(0, 0, 3, 3))
}

// quick is a machine with two levels, between which it goes in no time.
func quick() api.Platform {
	return api.Platform{Levels: []api.Level{{P: 1, E: 9}, {P: 2, E: 4}}, Crit: 1, Sems: 1, Horizon: 900}
}

// Lazy looks at deadlines from the job's own on: that there is little time up
// to an earlier one, of a job that may come, does not make it faster.
func TestLazyFromDeadline(t *testing.T) {
	b := told(t, quick(), admits(api.Task{Period: 10, Cycles: 6}), admits(api.Task{Period: 100, Cycles: 10}), policy(api.Lazy, 0), arrives(1, 0, 10), ticks(5))
	b.did(t, switched(1, 0), ran(1, 1, 6, 3))
	// For that one there is too little time.
	b.takes(t, arrives(0, 0, 6), ticks(6))
	b.did(t, switched(1, 0), ran(1, 1, 6, 3), switched(0, 0), ran(0, 0, 6, 6))
	b.takes(t, ticks(2))
	b.did(t, switched(1, 0), ran(1, 1, 6, 3), switched(0, 0), ran(0, 0, 6, 6), switched(1, 0), ran(1, 1, 2, 1))
}

// Lazy looks at the time from now on: what has gone by is gone.
func TestLazyFromNow(t *testing.T) {
	for cycles, level := range map[int]int{13: 1, 14: 0, 15: 0} {
		b := told(t, quick(), admits(api.Task{Period: 20, Cycles: 6}), admits(api.Task{Period: 40, Cycles: cycles}), arrives(0, 0, 6), arrives(1, 0, cycles), ticks(6), policy(api.Lazy, 0), ticks(1))
		b.events(t, released(0, 0, 20), released(1, 0, 40), finished(0, 6, 20))
		number(t, "Level", b.k.Level(), level)
		b.takes(t, ticks(33))
		b.events(t, released(0, 0, 20), released(1, 0, 40), finished(0, 6, 20), finished(1, 6+cycles*(1+level), 40))
	}
}

// Lazy looks at what a job may take yet, not at what it has had; and at what
// the task may ask for, not at what the job would take.
func TestLazyLooksAtLeft(t *testing.T) {
	b := told(t, quick(), admits(api.Task{Period: 40, Cycles: 20}), admits(api.Task{Period: 30, Cycles: 2}), arrives(0, 0, 20), ticks(9), arrives(1, 0, 2), ticks(2), policy(api.Lazy, 0), ticks(2))
	b.did(t, ran(0, 0, 9, 9), ran(1, 0, 2, 2), switched(1, 0), ran(0, 1, 2, 1))
	for _, cycles := range []int{1, 21, 90} {
		b = told(t, quick(), admits(api.Task{Period: 40, Cycles: 20}), policy(api.Lazy, 0), arrives(0, 0, cycles), ticks(1))
		b.did(t, switched(1, 0), ran(0, 1, 2, 1))
		b = told(t, quick(), admits(api.Task{Period: 40, Cycles: 21}), policy(api.Lazy, 0), arrives(0, 0, cycles), ticks(1))
		b.did(t, ran(0, 0, 1, 1))
	}
}

// Lazy looks at what is held: the holder may keep others waiting yet.
func TestLazyLooksAtHeld(t *testing.T) {
	for _, holds := range []bool{false, true} {
		b := told(t, quick(), admits(api.Task{Period: 20, Cycles: 6}), admits(api.Task{Period: 40, Cycles: 15, Sec: []int{1}}), admits(api.Task{Period: 200, Cycles: 5, Sec: []int{4}}), arrives(2, 0, 5), ticks(1))
		level := 1
		if holds {
			b.takes(t, takesSem(0))
			level = 0
		}
		b.takes(t, policy(api.Lazy, 0), arrives(0, 0, 6), ticks(1))
		number(t, "Level", b.k.Level(), level)
		if got := b.k.Stack(); !slices.Equal(got, []int{2, 0}) {
			t.Errorf("the stack is %v", got)
		}
	}
}

// Lazy looks at when the next jobs may come: one that is latched for later
// leaves time.
func TestLazyLooksAtNext(t *testing.T) {
	for after, level := range map[int]int{0: 0, 5: 0, 20: 1, 80: 1} {
		b := told(t, quick(), admits(api.Task{Period: 16, Cycles: 8}), admits(api.Task{Period: 40, Cycles: 12}), policy(api.Lazy, 0), ticks(3))
		b.takes(t, arrives(0, after+1, 8), arrives(1, 0, 12), ticks(1))
		number(t, "Level", b.k.Level(), level)
	}
}

// The task whose job has ended is not on the stack any more, and holds nothing;
// all others are as they were, whatever their numbers.
func TestOthersStay(t *testing.T) {
	m := locking()
	for _, order := range [][]int{{0, 1, 2}, {2, 1, 0}, {1, 2, 0}, {2, 0, 1}} {
		b := begin(t, m)
		periods := [3]int{}
		for i, n := range order {
			periods[n] = 90 - 20*i
		}
		for n := range 3 {
			sec := make([]int, 3)
			sec[n] = 3
			b.takes(t, admits(api.Task{Period: periods[n], Cycles: 5, Sec: sec}))
		}
		for _, n := range order {
			b.takes(t, arrives(n, 0, 5), ticks(1), takesSem(n))
		}
		for i := 3; i > 0; i-- {
			if got := b.k.Stack(); !slices.Equal(got, order[:i]) {
				t.Fatalf("the stack is %v, not %v", got, order[:i])
			}
			held := b.k.Held()
			number(t, "held", len(held), i)
			for at, h := range held {
				number(t, "the holder", h.Task, order[at])
			}
			for len(b.k.Jobs()) == i { // till it is cut
				b.takes(t, ticks(1))
			}
		}
	}
}
