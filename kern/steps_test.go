package kern

import (
	"math"
	"reflect"
	"slices"
	"testing"

	"dormouse/api"
	"dormouse/dev"
	"dormouse/locks"
)

// badTasks are tasks that may not be on a machine with one semaphore, one
// device and a Horizon of 200.
func badTasks() []api.Task {
	return []api.Task{
		{}, {Period: 0, Cycles: 1}, {Period: -1, Cycles: 1}, {Period: 201, Cycles: 1}, {Period: math.MaxInt, Cycles: 1}, {Period: math.MinInt, Cycles: 1},
		{Period: 50, Cycles: 0}, {Period: 50, Cycles: -1}, {Period: 50, Cycles: api.MaxCycles + 1}, {Period: 50, Cycles: math.MaxInt}, {Period: 50, Cycles: math.MinInt},
		{Period: 50, Cycles: 3, Sec: []int{4}}, {Period: 50, Cycles: 3, Sec: []int{-1}}, {Period: 50, Cycles: 3, Sec: []int{1, 1}}, {Period: 50, Cycles: 3, Sec: []int{math.MaxInt}},
		{Period: 50, Cycles: 3, Devs: []int{1}}, {Period: 50, Cycles: 3, Devs: []int{-1}}, {Period: 50, Cycles: 3, Devs: []int{0, 0}}, {Period: 50, Cycles: 3, Devs: []int{math.MinInt}},
	}
}

// small is a machine with one semaphore, one device and a Horizon of 200.
func small() api.Platform {
	m := bare(200)
	m.Sems, m.Devices = 1, []api.Device{spun}
	return m
}

// P20.3: each error by itself, and each two of them together: the one that is
// named first is answered.
func TestAdmitErrors(t *testing.T) {
	light, heavy := api.Task{Period: 100, Cycles: 5, Sec: []int{2}}, api.Task{Period: 10, Cycles: 10}
	bad := append(badTasks(), api.Task{Period: 10, Cycles: 10, Devs: []int{3}})
	held := []api.Step{admits(light), arrives(0, 0, 5), ticks(1), takesSem(0)}
	full := slices.Repeat([]api.Step{admits(light)}, api.MaxTasks)
	fullHeld := append(slices.Clone(full), held[1:]...)
	for _, now := range []struct {
		name                    string
		steps                   []api.Step
		ofBad, ofHeavy, ofLight api.Errno
	}{
		{"nothing", nil, api.ErrTask, api.ErrLoad, api.OK},
		{"a task", held[:1], api.ErrTask, api.ErrLoad, api.OK},
		{"a job", held[:3], api.ErrTask, api.ErrLoad, api.OK},
		{"held", held, api.ErrTask, api.ErrBusy, api.ErrBusy},
		{"full", full, api.ErrTask, api.ErrFull, api.ErrFull},
		{"held and full", fullHeld, api.ErrTask, api.ErrBusy, api.ErrBusy},
		{"full but one", full[1:], api.ErrTask, api.ErrLoad, api.OK},
		{"given", append(slices.Clone(held), givesSem(0)), api.ErrTask, api.ErrLoad, api.OK},
	} {
		b := told(t, small(), now.steps...)
		for _, x := range bad {
			b.refuses(t, admits(x), now.ofBad)
		}
		b.refuses(t, admits(heavy), now.ofHeavy)
		if now.ofLight == api.OK {
			b.takes(t, admits(light))
		} else {
			b.refuses(t, admits(light), now.ofLight)
		}
	}
}

// P20.3: a semaphore that is held by whomever is in the way, and no other
// number of the step is looked at.
func TestAdmitLooksAtTask(t *testing.T) {
	for _, n := range ends {
		b := begin(t, small())
		x := admits(api.Task{Period: 40, Cycles: 2})
		x.A, x.B, x.C = n, n, n
		number(t, "the number", b.takes(t, x), 0)
		x.Task.Cycles = 0
		b.refuses(t, x, api.ErrTask)
	}
}

// P20.3: a task that does not fit, and the same one with less: by its Cycles,
// by its Period, by what it may hold up, and beside others.
func TestAdmitFits(t *testing.T) {
	b := begin(t, small())
	for range 20 { // no place is lost by it
		b.refuses(t, admits(api.Task{Period: 4, Cycles: 4}), api.ErrLoad)
	}
	b.takes(t, admits(api.Task{Period: 4, Cycles: 3}))
	b.refuses(t, admits(api.Task{Period: 200, Cycles: 1}), api.ErrLoad)
	b.takes(t, removes(0), admits(api.Task{Period: 200, Cycles: 1}))

	b = told(t, small(), admits(api.Task{Period: 10, Cycles: 4, Sec: []int{1}}))
	b.refuses(t, admits(api.Task{Period: 40, Cycles: 9, Sec: []int{5}}), api.ErrLoad)
	b.refuses(t, admits(api.Task{Period: 40, Cycles: 13, Sec: []int{4}}), api.ErrLoad)
	number(t, "the number", b.takes(t, admits(api.Task{Period: 40, Cycles: 4, Sec: []int{3}})), 1)

	m := small()
	m.Switch = 3
	b = begin(t, m)
	b.refuses(t, admits(api.Task{Period: 16, Cycles: 8}), api.ErrLoad)
	b.takes(t, admits(api.Task{Period: 16, Cycles: 7}))
}

// P20.3: the number is the least one that is free, also when tasks between
// have gone; with all MaxTasks taken there is none.
func TestLeastNumber(t *testing.T) {
	b, x := begin(t, bare(200)), api.Task{Period: 100, Cycles: 3}
	for n := range api.MaxTasks {
		number(t, "the number", b.takes(t, admits(x)), n)
		x.Period++
	}
	b.refuses(t, admits(x), api.ErrFull)
	for _, gone := range [][]int{{0}, {5}, {3}, {2, 4}, {4, 2}, {5, 1, 0}, {5, 4, 3, 2, 1, 0}, {0, 1, 2, 3, 4, 5}, {1}} {
		for _, n := range gone {
			b.takes(t, removes(n))
			b.refuses(t, removes(n), api.ErrNone)
		}
		for _, n := range slices.Sorted(slices.Values(gone)) {
			x.Period--
			number(t, "the number", b.takes(t, admits(x)), n)
			if got := b.k.Tasks()[n]; !reflect.DeepEqual(got, x) {
				t.Errorf("task %d is %+v", n, got)
			}
			x.Period++
		}
		b.refuses(t, admits(x), api.ErrFull)
	}
}

// firstNext admits x, which has to have these, and tells its number.
func (b *pair) firstNext(t *testing.T, x api.Task, want int) int {
	t.Helper()
	n := b.takes(t, admits(x))
	number(t, "Next", b.k.Next(n), want)
	number(t, "Used", b.k.Used(n), x.Cycles)
	return n
}

// P20.3: the first job of a new task may come now, if no job is ready, the CPU
// is not asleep and no device lacks.
func TestNextIsNow(t *testing.T) {
	x := api.Task{Period: 40, Cycles: 3}
	b := begin(t, small())
	b.firstNext(t, x, 0)
	b.takes(t, ticks(7))
	n := b.firstNext(t, x, 7)
	b.takes(t, ticks(3))
	number(t, "Next", b.k.Next(n), 7)
	// Of a job that is latched, or has ended, there is nothing to wait for.
	b.takes(t, arrives(0, 40, 3))
	b.firstNext(t, x, 10)
	b.takes(t, arrives(1, 0, 3), ticks(3))
	b.firstNext(t, x, 13)
	// Nor of a task that has gone.
	b.takes(t, removes(1))
	number(t, "the number", b.firstNext(t, x, 13), 1)
}

// P20.3: with jobs ready it is the latest Deadline of these.
func TestNextBehindJobs(t *testing.T) {
	x := api.Task{Period: 90, Cycles: 3}
	b := told(t, small(), admits(api.Task{Period: 60, Cycles: 3}), admits(api.Task{Period: 30, Cycles: 4}), admits(x), ticks(5))
	b.takes(t, arrives(0, 0, 3))
	b.firstNext(t, x, 65)
	b.takes(t, arrives(1, 0, 4))
	b.firstNext(t, x, 65)
	b.takes(t, ticks(4))
	b.firstNext(t, x, 65)
	b = told(t, small(), admits(api.Task{Period: 60, Cycles: 3}), admits(api.Task{Period: 30, Cycles: 4}), ticks(5), arrives(1, 0, 4))
	b.firstNext(t, x, 35)
	b.takes(t, ticks(3))
	b.firstNext(t, x, 35)
	b.takes(t, ticks(1)) // the job has finished
	b.firstNext(t, x, 9)
}

// P20.3: with the CPU asleep it is Wake and the greatest Period of the other
// tasks together.
func TestNextBehindSleep(t *testing.T) {
	m := sleeping()
	b := told(t, m, policy(api.Full, 1), ticks(3))
	for range 3 { // Wake is as it was, and tasks come
		n := b.firstNext(t, api.Task{Period: 300, Cycles: 3}, api.MaxNap)
		b.takes(t, removes(n), ticks(1))
	}
	b.firstNext(t, api.Task{Period: 300, Cycles: 3}, api.MaxNap)
	b.firstNext(t, api.Task{Period: 200, Cycles: 3}, api.MaxNap+300)
	b.firstNext(t, api.Task{Period: 500, Cycles: 3}, api.MaxNap+300)
	b.firstNext(t, api.Task{Period: 100, Cycles: 3}, api.MaxNap+500)

	// Wake is 12: of 16 quanta one task may ask for 4.
	b = told(t, m, admits(api.Task{Period: 16, Cycles: 4}), policy(api.Full, 1), ticks(5))
	if !b.k.Asleep() {
		t.Fatal("the CPU is not asleep")
	}
	b.firstNext(t, api.Task{Period: 90, Cycles: 3}, 28)
	b.takes(t, arrives(0, 0, 4)) // due at 21: a job that waits is no later
	b.firstNext(t, api.Task{Period: 40, Cycles: 1}, 12+90)
	b.takes(t, ticks(4))
	b.firstNext(t, api.Task{Period: 90, Cycles: 1}, 12+90)
	b.takes(t, ticks(3)) // it is there again
	number(t, "Now", b.k.Now(), 12)
	if b.k.Asleep() {
		t.Fatal("the CPU is asleep")
	}
	b.firstNext(t, api.Task{Period: 90, Cycles: 1}, 21)
	// With no way out it may be asleep at Wake itself, which is 2.
	quick := sleeping()
	quick.Sleeps = []api.Sleep{{Power: 4, Enter: 1, Even: 2}}
	early := told(t, quick, admits(eighths(6)), policy(api.Full, 1), ticks(2))
	if !early.k.Asleep() {
		t.Fatal("the CPU is not asleep")
	}
	early.firstNext(t, api.Task{Period: 90, Cycles: 1}, 10)
	b.takes(t, ticks(4))
	b.firstNext(t, api.Task{Period: 90, Cycles: 1}, 16)
}

// P20.3: with a device that it needs Down, Off, Up or On: it is called, if it
// was not, and the first job may come when it is there.
func TestNextBehindDevice(t *testing.T) {
	x := api.Task{Period: 90, Cycles: 3, Devs: []int{0}}
	for _, one := range []struct{ now, until int }{{0, 9}, {1, 9}, {6, 9}, {7, 9}, {8, 10}, {9, 11}, {50, 52}} {
		b := told(t, small(), ticks(0), ticks(one.now))
		if got := b.k.Device(0); got != (dev.Dev{Until: api.Never}) {
			t.Fatalf("device 0 is %+v", got)
		}
		b.firstNext(t, x, one.until)
		if got := b.k.Device(0); got != (dev.Dev{Until: one.until}) {
			t.Errorf("device 0 is %+v", got)
		}
		b.takes(t, removes(0))
		// It is called already, and comes when it was to come.
		b.firstNext(t, x, one.until)
		b.firstNext(t, x, one.until)
	}
	// At the very beginning it is on.
	b := begin(t, small())
	b.firstNext(t, x, 0)
	if got := b.k.Device(0); got != (dev.Dev{}) {
		t.Errorf("device 0 is %+v", got)
	}
	// So it is where somebody needs it, and where it has come back.
	b.takes(t, ticks(5))
	b.firstNext(t, x, 5)
	b.takes(t, arrives(0, 20, 3), arrives(1, 30, 3))
	for i, want := range []int{25, 25, 25} { // Down, Off, Up
		if got := b.k.Device(0); got != (dev.Dev{From: 5, Until: 25}) {
			t.Errorf("device 0 is %+v", got)
		}
		n := b.firstNext(t, x, want)
		b.takes(t, removes(n), ticks([]int{1, 17, 1}[i]))
	}
	b.firstNext(t, x, 25)
	b.takes(t, ticks(1))
	// On again, with a job that needs it.
	number(t, "Now", b.k.Now(), 25)
	b.takes(t, ticks(3))
	b.firstNext(t, x, 28)
	if got := b.k.Device(0); got != (dev.Dev{From: 5, Until: 25}) {
		t.Errorf("device 0 is %+v", got)
	}
}

// P20.3: a device without a way down, or up, may be on at once, or off.
func TestNextBehindQuickDevice(t *testing.T) {
	for _, one := range []struct {
		d           api.Device
		next, until int
	}{
		{api.Device{On: 1, Even: 1}, 5, 5},
		{api.Device{On: 1, Even: 5}, 5, 5},
		{api.Device{On: 1, Even: 6}, 6, 6},
		{api.Device{On: 1, Up: 1, Even: 1}, 6, 6},
		{api.Device{On: 1, Down: 5, Even: 5}, 5, 5},
		{api.Device{On: 1, Down: 6, Even: 6}, 6, 6},
		{api.Device{On: 1, Down: 5, Up: 3, Even: 8}, 8, 8},
	} {
		b := told(t, spinning(one.d), ticks(0), ticks(5))
		b.firstNext(t, api.Task{Period: 90, Cycles: 3, Devs: []int{0}}, one.next)
		if got := b.k.Device(0); got != (dev.Dev{Until: one.until}) {
			t.Errorf("device 0 is %+v", got)
		}
	}
}

// P20.3: just the devices that it needs are called, and the latest one counts.
func TestWhichDevices(t *testing.T) {
	slow, quick := spun, spun
	slow.Even, quick.Even, quick.Up = 40, 3, 1
	m := spinning(spun, slow, quick)
	for _, one := range []struct {
		devs  []int
		next  int
		until [3]int
	}{
		{nil, 6, [3]int{api.Never, api.Never, api.Never}},
		{[]int{0}, 9, [3]int{9, api.Never, api.Never}},
		{[]int{1}, 40, [3]int{api.Never, 40, api.Never}},
		{[]int{2}, 7, [3]int{api.Never, api.Never, 7}},
		{[]int{0, 1}, 40, [3]int{9, 40, api.Never}},
		{[]int{0, 2}, 9, [3]int{9, api.Never, 7}},
		{[]int{1, 2}, 40, [3]int{api.Never, 40, 7}},
		{[]int{0, 1, 2}, 40, [3]int{9, 40, 7}},
	} {
		b := told(t, m, ticks(0), ticks(6))
		b.firstNext(t, api.Task{Period: 90, Cycles: 3, Devs: one.devs}, one.next)
		for d, until := range one.until {
			if got := b.k.Device(d); got != (dev.Dev{Until: until}) {
				t.Errorf("of a task that needs %v device %d is %+v", one.devs, d, got)
			}
		}
	}
}

// P20.3: the latest of all of these, whichever it is.
func TestNextIsLatest(t *testing.T) {
	m := sleeping()
	m.Devices = []api.Device{spun}
	m.Devices[0].Even = 60
	x := api.Task{Period: 90, Cycles: 3, Devs: []int{0}}
	// A job that is ready, due at 70, the CPU asleep, and the device off.
	b := told(t, m, admits(api.Task{Period: 64, Cycles: 8}), policy(api.Full, 1), ticks(6), arrives(0, 0, 4))
	b.firstNext(t, api.Task{Period: 200, Cycles: 3}, 56+64)
	b.firstNext(t, x, 56+200)
	b = told(t, m, admits(api.Task{Period: 16, Cycles: 4}), policy(api.Full, 1), ticks(6), arrives(0, 0, 4))
	b.firstNext(t, x, 60)
	// The CPU is there, and the job is later than the device.
	b = told(t, m, ticks(6), admits(api.Task{Period: 70, Cycles: 4}), arrives(0, 0, 4))
	b.firstNext(t, x, 76)
	b = told(t, m, ticks(6), admits(api.Task{Period: 50, Cycles: 4}), arrives(0, 0, 4))
	b.firstNext(t, x, 61) // it went away at 1
}

// P20.4: numbers of no task.
func TestRemoveNone(t *testing.T) {
	b := begin(t, small())
	b.refuses(t, removes(0), api.ErrNone)
	b.takes(t, admits(api.Task{Period: 50, Cycles: 5}), admits(api.Task{Period: 50, Cycles: 5}), admits(api.Task{Period: 50, Cycles: 5}), removes(1))
	for _, n := range append([]int{1, 3, 4, 5, 6, 7, 64}, ends...) {
		if n != 0 && n != 2 {
			b.refuses(t, removes(n), api.ErrNone)
		}
	}
	b.takes(t, removes(2), removes(0))
	for n := range api.MaxTasks {
		b.refuses(t, removes(n), api.ErrNone)
	}
}

// P20.4: with a job ready, with one latched, and with a semaphore held, by
// whomever; of several errors ErrNone is first.
func TestRemoveBusy(t *testing.T) {
	x := api.Task{Period: 50, Cycles: 5, Sec: []int{2}}
	b := told(t, small(), admits(x), admits(x), admits(x), arrives(0, 10, 5), ticks(3))
	b.refuses(t, removes(0), api.ErrBusy) // latched
	b.takes(t, removes(2), ticks(7))
	b.refuses(t, removes(0), api.ErrBusy) // ready, and not started
	b.takes(t, ticks(1))
	b.refuses(t, removes(0), api.ErrBusy) // started
	b.takes(t, admits(x), removes(2), takesSem(0))
	b.refuses(t, removes(0), api.ErrBusy)
	b.refuses(t, removes(1), api.ErrBusy) // held by another one
	b.refuses(t, removes(2), api.ErrNone)
	b.refuses(t, removes(-1), api.ErrNone)
	b.takes(t, givesSem(0), removes(1))
	b.refuses(t, removes(0), api.ErrBusy)
	b.takes(t, ticks(3))
	b.refuses(t, removes(0), api.ErrBusy)
	b.takes(t, ticks(1), removes(0))
}

// P20.4: of a task that has gone there is nothing left, and its number is free:
// what comes to it has a next and a number used of its own.
func TestRemovedIsGone(t *testing.T) {
	b := told(t, small(), admits(api.Task{Period: 50, Cycles: 5, Sec: []int{2}, Devs: []int{0}}), admits(api.Task{Period: 60, Cycles: 4}), arrives(0, 0, 2), ticks(4))
	number(t, "Used", b.k.Used(0), 2)
	number(t, "Next", b.k.Next(0), 50)
	b.takes(t, removes(0))
	if got := b.k.Tasks()[0]; !reflect.DeepEqual(got, api.Task{}) || b.k.Next(0) != 0 || b.k.Used(0) != 0 {
		t.Errorf("task 0 is %+v, Next %d, Used %d", got, b.k.Next(0), b.k.Used(0))
	}
	b.refuses(t, arrives(0, 60, 1), api.ErrNone)
	b.takes(t, ticks(2))
	b.firstNext(t, api.Task{Period: 40, Cycles: 4}, 6)
	b.takes(t, arrives(0, 0, 4), ticks(5))
	b.events(t, released(0, 0, 50), finished(0, 2, 50), released(0, 6, 46), finished(0, 10, 46))
	b.takes(t, removes(0), removes(1))
	// What has gone does not count where others are admitted.
	b.takes(t, admits(api.Task{Period: 4, Cycles: 3}))
}

// P20.5: each error by itself, and each two together.
func TestArriveErrors(t *testing.T) {
	x := api.Task{Period: 50, Cycles: 5}
	// Task 0 has a job that is latched, task 1 one that is ready, task 2 none.
	b := told(t, small(), admits(x), admits(x), admits(x), ticks(4), arrives(0, 10, 5), arrives(1, 0, 5), ticks(2))
	for _, n := range []int{math.MinInt, -1, math.MinInt + 1, api.MaxHorizon + 1, math.MaxInt, math.MaxInt - 1} {
		for who := range 3 {
			b.refuses(t, arrives(who, n, 1), api.ErrArg)
			b.refuses(t, arrives(who, 60, n), api.ErrArg)
			b.refuses(t, arrives(who, 60, 0), api.ErrArg)
			b.refuses(t, arrives(who, n, n), api.ErrArg)
			b.refuses(t, arrives(who, 0, n), api.ErrArg)
		}
		b.refuses(t, arrives(3, n, 1), api.ErrNone)
		b.refuses(t, arrives(3, 1, n), api.ErrNone)
	}
	for _, n := range append([]int{3, 4, 5, 6, 7}, ends...) {
		if n < 0 || n > 2 {
			b.refuses(t, arrives(n, 0, 1), api.ErrNone)
			b.refuses(t, arrives(n, 90, 5), api.ErrNone)
			b.refuses(t, arrives(n, -1, 0), api.ErrNone)
		}
	}
	b.refuses(t, arrives(0, 0, 1), api.ErrBusy) // and too early
	b.refuses(t, arrives(0, 8, 1), api.ErrBusy)
	b.refuses(t, arrives(0, 90, 1), api.ErrBusy)
	b.refuses(t, arrives(1, 0, 1), api.ErrEarly)
	b.refuses(t, arrives(1, 47, 1), api.ErrEarly)
	b.takes(t, arrives(1, 48, 1), arrives(2, 0, 1))
}

// P20.5: B and C at both ends of what is allowed, and just outside.
func TestArriveEnds(t *testing.T) {
	x := api.Task{Period: 50, Cycles: 5}
	for _, now := range []int{0, 3} {
		for _, after := range []int{0, 1, api.MaxHorizon - 1, api.MaxHorizon} {
			for _, cycles := range []int{1, 2, api.MaxHorizon - 1, api.MaxHorizon} {
				b := told(t, small(), admits(x), ticks(now))
				for _, out := range []int{math.MinInt, -1, api.MaxHorizon + 1, math.MaxInt} {
					b.refuses(t, arrives(0, out, cycles), api.ErrArg)
					b.refuses(t, arrives(0, after, out), api.ErrArg)
				}
				b.refuses(t, arrives(0, after, 0), api.ErrArg)
				b.takes(t, arrives(0, after, cycles), ticks(8))
				if after < 2 {
					j := api.Job{Task: 0, Release: now + after, Deadline: now + after + 50, Left: 5, Real: cycles}
					number(t, "Used", b.k.Used(0), min(cycles, 5))
					if cycles == 1 {
						b.events(t, released(0, j.Release, j.Deadline), finished(0, j.Release+1, j.Deadline))
					} else if cycles > 5 {
						b.events(t, released(0, j.Release, j.Deadline), cut(0, j.Release+5, j.Deadline))
					}
				} else {
					number(t, "Next", b.k.Next(0), now+after)
				}
			}
		}
	}
}

// P20.5: Now + B just ahead of next, at it, and behind it; next is Now + B as
// long as the job is latched, and its Deadline when it has come.
func TestArriveAroundNext(t *testing.T) {
	for _, late := range []int{0, 1, 13} {
		b := told(t, small(), admits(api.Task{Period: 50, Cycles: 5}), arrives(0, 0, 2), ticks(10))
		number(t, "Next", b.k.Next(0), 50)
		for _, early := range []int{0, 1, 30, 39} {
			b.refuses(t, arrives(0, early, 5), api.ErrEarly)
		}
		number(t, "Used", b.k.Used(0), 2)
		b.takes(t, arrives(0, 40+late, 4))
		number(t, "Next", b.k.Next(0), 50+late)
		number(t, "Used", b.k.Used(0), 2)
		b.takes(t, ticks(39+late))
		number(t, "Next", b.k.Next(0), 50+late)
		number(t, "Used", b.k.Used(0), 2)
		if len(b.k.Jobs()) != 0 {
			t.Errorf("the jobs are %+v", b.k.Jobs())
		}
		b.takes(t, ticks(1))
		number(t, "Next", b.k.Next(0), 100+late)
		number(t, "Used", b.k.Used(0), 5)
		if want := (api.Job{Task: 0, Release: 50 + late, Deadline: 100 + late, Left: 5, Real: 4}); !slices.Equal(b.k.Jobs(), []api.Job{want}) {
			t.Errorf("the jobs are %+v", b.k.Jobs())
		}
		b.takes(t, ticks(4))
		number(t, "Next", b.k.Next(0), 100+late)
		number(t, "Used", b.k.Used(0), 4)
	}
}

// P20.5: a next that is behind now, or ahead of it: just now and later counts.
func TestArriveLate(t *testing.T) {
	b := told(t, small(), admits(api.Task{Period: 20, Cycles: 5}), ticks(90))
	number(t, "Next", b.k.Next(0), 0)
	b.takes(t, arrives(0, 0, 1))
	number(t, "Next", b.k.Next(0), 110)
	b.refuses(t, arrives(0, 19, 1), api.ErrEarly)
	b.takes(t, arrives(0, 20, 1)) // while a job is ready, the next one is latched
	number(t, "Next", b.k.Next(0), 110)
	b.refuses(t, arrives(0, 40, 1), api.ErrBusy)
	b.takes(t, ticks(20))
	b.events(t, released(0, 90, 110), finished(0, 91, 110), released(0, 110, 130))
}

// P20.5: a job comes when its moment is there, within a tick as well; its
// Release is that moment, also where an interval goes on beyond it.
func TestArriveWithin(t *testing.T) {
	m := bare(300)
	m.Levels[0].P = 4
	b := told(t, m, admits(api.Task{Period: 150, Cycles: 9}), admits(api.Task{Period: 90, Cycles: 1}), arrives(0, 0, 9), arrives(1, 5, 1), ticks(20))
	b.events(t, released(0, 0, 150), released(1, 5, 95), finished(1, 12, 95))
	b.did(t, ran(0, 0, 8, 2), ran(1, 0, 4, 1), ran(0, 0, 8, 2))
}

// P20.6: A of 0, 1, MaxHorizon, and just outside.
func TestTick(t *testing.T) {
	b := begin(t, bare(50))
	for _, n := range []int{math.MinInt, math.MinInt + 1, -2, -1, api.MaxHorizon + 1, 1 << 32, math.MaxInt} {
		b.refuses(t, ticks(n), api.ErrArg)
	}
	b.takes(t, ticks(0))
	b.did(t)
	b.takes(t, ticks(1))
	b.did(t, idled(1))
	b.takes(t, ticks(0), ticks(30))
	b.did(t, idled(31))
	b.takes(t, ticks(api.MaxHorizon))
	b.did(t, idled(50))

	b = told(t, bare(api.MaxHorizon), ticks(api.MaxHorizon))
	b.did(t, idled(api.MaxHorizon))
	b = told(t, bare(api.MaxHorizon), ticks(1), ticks(api.MaxHorizon))
	b.did(t, idled(api.MaxHorizon))
	b = told(t, bare(50), ticks(49), ticks(2))
	b.did(t, idled(50))
}

// P20.6: the last step of the machine goes on to its end.
func TestTickBeyond(t *testing.T) {
	m := bare(300)
	m.Levels[0].P = 4
	b := told(t, m, admits(api.Task{Period: 150, Cycles: 9}), arrives(0, 0, 6))
	for i, n := range []int{1, 2, 3, 4} {
		b.takes(t, ticks(n))
		b.did(t, ran(0, 0, 4*(i+1), i+1))
	}
	b.takes(t, ticks(5))
	b.did(t, ran(0, 0, 24, 6))
	b.events(t, released(0, 0, 150), finished(0, 24, 150))
	b.takes(t, ticks(5))
	b.did(t, ran(0, 0, 24, 6), idled(5))
}

// P20.6, P6: a tick of many quanta against as many of one.
func TestTickByQuanta(t *testing.T) {
	m := sleeping()
	m.Levels, m.Crit, m.Switch, m.SwitchE = []api.Level{{P: 1, E: 90}, {P: 3, E: 30}}, 1, 2, 1
	m.Devices = []api.Device{spun}
	first := []api.Step{
		policy(api.Lazy, 1), admits(api.Task{Period: 70, Cycles: 5, Sec: []int{3}, Devs: []int{0}}), admits(api.Task{Period: 40, Cycles: 3}),
		sets(0, 3, 7), arrives(0, 15, 5), arrives(1, 23, 4),
	}
	for _, quanta := range []int{1, 2, 5, 13, 50, 111, 300} {
		one, many := told(t, m, first...), told(t, m, first...)
		one.takes(t, ticks(quanta))
		for many.k.Now() < quanta {
			many.takes(t, ticks(1))
		}
		if got, want := seen(t, many.k), seen(t, one.k); !reflect.DeepEqual(got, want) {
			t.Errorf("by %d quanta there is\n%+v\nnot\n%+v", quanta, got, want)
		}
	}
}

// P20.7: asleep, nobody there, somebody whose job is not Started.
func TestLockIdle(t *testing.T) {
	m := sleeping()
	x := api.Task{Period: 50, Cycles: 5, Sec: []int{2}}
	idle := func(b *pair) {
		t.Helper()
		for _, s := range append([]int{0, 1, 2, 3}, ends...) {
			b.refuses(t, takesSem(s), api.ErrIdle)
			b.refuses(t, givesSem(s), api.ErrIdle)
		}
	}
	b := begin(t, m)
	idle(b)
	b.takes(t, admits(x), admits(api.Task{Period: 30, Cycles: 4, Sec: []int{1}}))
	idle(b)
	b.takes(t, arrives(0, 3, 5))
	idle(b)
	b.takes(t, ticks(3))
	idle(b) // it is ready, and not started
	b.takes(t, ticks(1), takesSem(0), givesSem(0), arrives(1, 0, 4))
	idle(b) // a more urgent one is ready, and not started
	b = told(t, m, admits(x), arrives(0, 0, 5), ticks(1), takesSem(0), ticks(3))
	idle(b) // it has ended: it held the semaphore too long
	b = told(t, m, admits(x), policy(api.Full, 1), ticks(4), arrives(0, 0, 5))
	if !b.k.Asleep() {
		t.Fatal("the CPU is not asleep")
	}
	idle(b)
	b.takes(t, ticks(50))
	idle(b)
}

// P20.7: a Switch starts the job that it is for.
func TestLockBehindSwitch(t *testing.T) {
	b := told(t, slowing(), policy(api.Lazy, 0), admits(api.Task{Period: 90, Cycles: 2, Sec: []int{1}}), arrives(0, 0, 2), ticks(1))
	b.did(t, switched(2, 1))
	b.takes(t, takesSem(0), ticks(3))
	b.did(t, switched(2, 1), ran(0, 2, 3, 1))
}

// P20.7: a semaphore that it does not use, one that it holds, one that is not
// its last, and numbers that no semaphore has.
func TestLockErrors(t *testing.T) {
	m := locking()
	b := told(t, m, admits(api.Task{Period: 50, Cycles: 9, Sec: []int{2, 0, 4}}), admits(api.Task{Period: 40, Cycles: 3, Sec: []int{1}}), admits(api.Task{Period: 30, Cycles: 3}), arrives(0, 0, 9), ticks(1))
	for _, s := range append([]int{1, 3, 4}, ends...) {
		if s != 0 && s != 2 {
			b.refuses(t, takesSem(s), api.ErrLock)
			b.refuses(t, givesSem(s), api.ErrLock)
		}
	}
	b.refuses(t, givesSem(0), api.ErrLock)
	b.refuses(t, givesSem(2), api.ErrLock)
	b.takes(t, takesSem(2))
	b.refuses(t, takesSem(2), api.ErrLock)
	b.refuses(t, givesSem(0), api.ErrLock)
	b.takes(t, takesSem(0))
	b.refuses(t, takesSem(0), api.ErrLock)
	b.refuses(t, takesSem(2), api.ErrLock)
	b.refuses(t, givesSem(2), api.ErrLock)
	b.takes(t, givesSem(0))
	b.refuses(t, givesSem(0), api.ErrLock)
	b.takes(t, takesSem(0))
	// Task 1 is not below the ceiling, and waits; task 2 is, and uses nothing.
	b.takes(t, arrives(1, 0, 3), arrives(2, 0, 3))
	b.refuses(t, givesSem(0), api.ErrIdle)
	b.takes(t, ticks(1))
	b.refuses(t, givesSem(0), api.ErrLock)
	b.refuses(t, takesSem(0), api.ErrLock)
	b.takes(t, ticks(2))
	b.takes(t, givesSem(0))
	b.refuses(t, givesSem(2), api.ErrIdle) // now task 1 is the one
	b.takes(t, ticks(3), givesSem(2))
}

// P20.7: whoever runs takes and gives, by its own number.
func TestLockByNumber(t *testing.T) {
	m := locking()
	for who := range api.MaxTasks {
		b := begin(t, m)
		for n := range api.MaxTasks {
			b.takes(t, admits(api.Task{Period: 100 + n, Cycles: 4, Sec: []int{1 + n%3, 2, 0}}))
		}
		b.takes(t, arrives(who, 0, 4), ticks(1), takesSem(1), takesSem(0))
		if got := b.k.Held(); !slices.Equal(got, []locks.Held{{Task: who, Sem: 1, Left: 2}, {Task: who, Sem: 0, Left: 1 + who%3}}) {
			t.Errorf("what is held is %v", got)
		}
		b.refuses(t, givesSem(1), api.ErrLock)
		b.refuses(t, takesSem(2), api.ErrLock)
		b.refuses(t, givesSem(2), api.ErrLock)
		b.takes(t, givesSem(0), givesSem(1), ticks(3))
		b.events(t, released(who, 0, 100+who), finished(who, 4, 100+who))
	}
}

// P20.7: it is taken for as many cycles as Sec says, and the job is cut when
// one of them is over; what ends holds nothing.
func TestLockTooLong(t *testing.T) {
	m := locking()
	for _, long := range []int{1, 2, 5} {
		b := told(t, m, admits(api.Task{Period: 90, Cycles: 9, Sec: []int{7, long}}), arrives(0, 0, 9), ticks(2), takesSem(0), takesSem(1))
		if got := b.k.Held(); !slices.Equal(got, []locks.Held{{Task: 0, Sem: 0, Left: 7}, {Task: 0, Sem: 1, Left: long}}) {
			t.Errorf("what is held is %v", got)
		}
		b.takes(t, ticks(long))
		if got := b.k.Held(); !slices.Equal(got, []locks.Held{{Task: 0, Sem: 0, Left: 7 - long}, {Task: 0, Sem: 1, Left: 0}}) {
			t.Errorf("what is held is %v", got)
		}
		b.events(t, released(0, 0, 90))
		b.takes(t, ticks(0))
		b.events(t, released(0, 0, 90))
		b.takes(t, ticks(3))
		b.events(t, released(0, 0, 90), cut(0, 2+long, 90))
		b.did(t, ran(0, 0, 2+long, 2+long), idled(3))
		number(t, "Used", b.k.Used(0), 2+long)
		number(t, "Next", b.k.Next(0), 90)
		if v := seen(t, b.k); v.Jobs != nil || v.Stack != nil || v.Held != nil {
			t.Errorf("there is %+v", v)
		}
	}
	// Given ahead of that, also with none left, it goes on.
	b := told(t, m, admits(api.Task{Period: 90, Cycles: 9, Sec: []int{2}}), arrives(0, 0, 9), ticks(2), takesSem(0), ticks(2), givesSem(0), ticks(1), takesSem(0), ticks(1))
	b.events(t, released(0, 0, 90))
	if got := b.k.Held(); !slices.Equal(got, []locks.Held{{Task: 0, Sem: 0, Left: 1}}) {
		t.Errorf("what is held is %v", got)
	}
	b.takes(t, ticks(3))
	b.events(t, released(0, 0, 90), cut(0, 7, 90))
	// What another one does in between is not counted.
	b = told(t, m, admits(api.Task{Period: 90, Cycles: 9, Sec: []int{2}}), admits(api.Task{Period: 40, Cycles: 4}), arrives(0, 0, 9), ticks(1), takesSem(0), arrives(1, 0, 4), ticks(5))
	if got := b.k.Held(); !slices.Equal(got, []locks.Held{{Task: 0, Sem: 0, Left: 1}}) {
		t.Errorf("what is held is %v", got)
	}
	b.takes(t, ticks(2))
	b.events(t, released(0, 0, 90), released(1, 1, 41), finished(1, 5, 41), cut(0, 7, 90))
	// A job that has finished, or was cut, gives what it holds.
	for _, cycles := range []int{3, 7} {
		b = told(t, m, admits(api.Task{Period: 90, Cycles: 3, Sec: []int{3}}), arrives(0, 0, cycles), ticks(1), takesSem(0), ticks(1))
		number(t, "held", len(b.k.Held()), 1)
		b.takes(t, ticks(1))
		number(t, "held", len(b.k.Held()), 0)
		b.takes(t, admits(api.Task{Period: 80, Cycles: 1, Sec: []int{1}}), arrives(1, 0, 1), ticks(1))
	}
}

// P20.7, P3: a task whose Period is not below the ceiling of what is held
// waits, till it is given.
func TestWaitsForSemaphore(t *testing.T) {
	m := locking()
	b := told(t, m, admits(api.Task{Period: 90, Cycles: 9, Sec: []int{5}}), admits(api.Task{Period: 60, Cycles: 2, Sec: []int{1}}), admits(api.Task{Period: 70, Cycles: 2}), admits(api.Task{Period: 59, Cycles: 2}))
	b.takes(t, arrives(0, 0, 9), ticks(1), takesSem(0), arrives(2, 0, 2), ticks(2))
	b.takes(t, arrives(1, 0, 2), arrives(3, 0, 2), ticks(3))
	b.takes(t, givesSem(0), ticks(9))
	b.did(t, ran(0, 0, 3, 3), ran(3, 0, 2, 2), ran(0, 0, 1, 1), ran(1, 0, 2, 2), ran(2, 0, 2, 2), ran(0, 0, 5, 5))
}

// P20.8: each policy and each B, and just outside.
func TestPolicyErrors(t *testing.T) {
	b := told(t, small(), policy(api.Lazy, 1))
	for _, n := range append([]int{-1, 4, 5}, ends...) {
		for sleep := range 2 {
			if n < 0 || n > 3 {
				b.refuses(t, policy(n, sleep), api.ErrArg)
			}
		}
		for p := range 4 {
			if n != 0 && n != 1 {
				b.refuses(t, policy(p, n), api.ErrArg)
			}
		}
	}
	for p := range 4 {
		for sleep := range 2 {
			b.takes(t, policy(p, sleep), api.Step{Kind: api.StepPolicy, A: p, B: sleep, C: math.MinInt})
		}
	}
}

// P20.8, P20.2: a policy that is refused changes neither the policy, nor
// whether the CPU may sleep.
func TestPolicyRefused(t *testing.T) {
	m := slowing()
	m.Sleeps = []api.Sleep{{Even: 1}}
	x := api.Task{Period: 90, Cycles: 2}
	b := told(t, m, admits(x), policy(api.Lazy, 0))
	b.refuses(t, policy(api.Full, 2), api.ErrArg)
	b.refuses(t, policy(-1, 1), api.ErrArg)
	b.takes(t, ticks(2), arrives(0, 0, 2), ticks(7))
	b.did(t, idled(2), switched(2, 1), ran(0, 2, 6, 2))
	b = told(t, m, admits(x), policy(api.Full, 1))
	b.refuses(t, policy(api.Lazy, -1), api.ErrArg)
	b.refuses(t, policy(4, 0), api.ErrArg)
	b.takes(t, arrives(0, 0, 2), ticks(2), ticks(2))
	b.did(t, ran(0, 0, 2, 2), entered(0, 0), slept(0, 2))
}

// P20.8: the level that the CPU has stays for now.
func TestPolicyLater(t *testing.T) {
	b := told(t, slowing(), policy(api.Lazy, 0), admits(api.Task{Period: 90, Cycles: 4}), arrives(0, 0, 4), ticks(4))
	number(t, "Level", b.k.Level(), 2)
	b.takes(t, policy(api.Full, 0))
	number(t, "Level", b.k.Level(), 2)
	b.takes(t, ticks(9))
	b.did(t, switched(2, 1), ran(0, 2, 12, 4))
	b.takes(t, ticks(10))
	number(t, "Level", b.k.Level(), 2)
	b.takes(t, ticks(67), arrives(0, 0, 4), ticks(5))
	b.did(t, switched(2, 1), ran(0, 2, 12, 4), idled(77), switched(0, 1), ran(0, 0, 4, 4))
	// And the other way round.
	b = told(t, slowing(), admits(api.Task{Period: 90, Cycles: 4}), arrives(0, 0, 4), ticks(1), policy(api.Lazy, 0), ticks(3))
	b.did(t, ran(0, 0, 4, 4))
}

// P20.8: whether the CPU is asleep stays for now.
func TestSleepLater(t *testing.T) {
	b := told(t, sleeping(), policy(api.Full, 1), ticks(4), policy(api.Full, 0))
	if !b.k.Asleep() {
		t.Fatal("the CPU is not asleep")
	}
	b.takes(t, ticks(1030))
	b.did(t, entered(1, 2), slept(1, 1019), left(1, 3), idled(10))
	b.takes(t, policy(api.Static, 1))
	if b.k.Asleep() {
		t.Fatal("the CPU is asleep")
	}
	b.takes(t, ticks(3))
	b.did(t, entered(1, 2), slept(1, 1019), left(1, 3), idled(10), entered(1, 2), slept(1, 1))
}

// P20.9: A, B and C at both ends of what is allowed, and just outside.
func TestTimerErrors(t *testing.T) {
	b := begin(t, small())
	for _, n := range append([]int{-1, api.MaxTimers, api.MaxHorizon + 1, api.MaxHorizon + 2}, ends...) {
		if n < 0 || n >= api.MaxTimers {
			b.refuses(t, sets(n, 0, 0), api.ErrArg)
			b.refuses(t, sets(n, 5, 5), api.ErrArg)
			b.refuses(t, cancels(n), api.ErrNone)
		}
		if n < 0 || n > api.MaxHorizon {
			b.refuses(t, sets(0, n, 0), api.ErrArg)
			b.refuses(t, sets(3, 0, n), api.ErrArg)
			b.refuses(t, sets(1, n, n), api.ErrArg)
			b.refuses(t, sets(n, n, n), api.ErrArg)
		}
	}
	for n := range api.MaxTimers {
		b.refuses(t, cancels(n), api.ErrNone)
		for _, after := range []int{0, 1, api.MaxHorizon} {
			for _, every := range []int{0, 1, api.MaxHorizon} {
				b.takes(t, sets(n, after, every))
			}
		}
		b.takes(t, cancels(n))
		b.refuses(t, cancels(n), api.ErrNone)
	}
}

// P20.9: a timer that is due now, later, once, and each C quanta.
func TestTimers(t *testing.T) {
	b := told(t, small(), ticks(5), sets(0, 0, 0))
	b.events(t, expired(0, 5, 5))
	b.refuses(t, cancels(0), api.ErrNone)
	b.takes(t, sets(1, 3, 0), ticks(2))
	b.events(t, expired(0, 5, 5))
	b.takes(t, ticks(1))
	b.events(t, expired(0, 5, 5), expired(1, 8, 8))
	b.refuses(t, cancels(1), api.ErrNone)
	b.takes(t, sets(2, 0, 4), ticks(9))
	b.events(t, expired(0, 5, 5), expired(1, 8, 8), expired(2, 8, 8), expired(2, 12, 12), expired(2, 16, 16))
	b.takes(t, cancels(2), ticks(9))
	number(t, "events", len(b.k.Events()), 5)
	// The longest ones there are.
	b = told(t, bare(api.MaxHorizon), ticks(1), sets(3, api.MaxHorizon, 1), sets(2, api.MaxHorizon-1, 0), sets(1, 0, api.MaxHorizon), sets(0, api.MaxHorizon-2, 1), ticks(api.MaxHorizon))
	b.events(t, expired(1, 1, 1), expired(0, api.MaxHorizon-1, api.MaxHorizon-1), expired(0, api.MaxHorizon, api.MaxHorizon), expired(2, api.MaxHorizon, api.MaxHorizon))
}

// P20.9: several moments within one interval are several events, each with its
// own Due; of one moment that of the least timer is first.
func TestTimersWithin(t *testing.T) {
	m := bare(300)
	m.Levels[0].P = 10
	b := told(t, m, admits(api.Task{Period: 200, Cycles: 3}), sets(3, 2, 3), sets(1, 8, 0), sets(0, 5, 5), arrives(0, 0, 3), ticks(1))
	b.events(t, released(0, 0, 200), expired(3, 10, 2), expired(0, 10, 5), expired(3, 10, 5), expired(1, 10, 8), expired(3, 10, 8), expired(0, 10, 10))
	b.takes(t, ticks(1))
	if got := b.k.Events()[7:]; !slices.Equal(got, []api.Event{expired(3, 20, 11), expired(3, 20, 14), expired(0, 20, 15), expired(3, 20, 17), expired(0, 20, 20), expired(3, 20, 20)}) {
		t.Errorf("the events are %v", got)
	}
}

// P20.9: a timer that is set again, and one that is cancelled.
func TestTimerAgain(t *testing.T) {
	b := told(t, small(), sets(1, 5, 2), sets(1, 9, 0), ticks(8))
	b.events(t)
	b.takes(t, ticks(10))
	b.events(t, expired(1, 9, 9))
	b = told(t, small(), sets(1, 9, 0), sets(1, 5, 2), ticks(8), sets(1, 4, 3), ticks(8))
	b.events(t, expired(1, 5, 5), expired(1, 7, 7), expired(1, 12, 12), expired(1, 15, 15))
	b = told(t, small(), sets(1, 5, 2), sets(2, 6, 0), cancels(1), ticks(9))
	b.events(t, expired(2, 6, 6))
	b.refuses(t, cancels(1), api.ErrNone)
	b.refuses(t, cancels(2), api.ErrNone)
	// Its other numbers are not looked at.
	b.takes(t, sets(2, 6, 0), api.Step{Kind: api.StepCancel, A: 2, B: -1, C: math.MaxInt})
}
