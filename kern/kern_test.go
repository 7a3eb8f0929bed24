package kern

import (
	"math"
	"reflect"
	"slices"
	"testing"

	"dormouse/api"
	"dormouse/dev"
	"dormouse/locks"
	"dormouse/meter"
)

// bare is a machine with one level of P 1, and nothing else.
func bare(horizon int) api.Platform {
	return api.Platform{Levels: []api.Level{{P: 1, E: 2}}, Horizon: horizon}
}

// locking is a bare machine with semaphores.
func locking() api.Platform {
	p := bare(200)
	p.Sems = api.MaxSems
	return p
}

// slowing is a machine with two levels that save energy, and one that is not
// used.
func slowing() api.Platform {
	return api.Platform{Levels: []api.Level{{P: 1, E: 9}, {P: 2, E: 4}, {P: 3, E: 3}, {P: 9, E: 9}}, Crit: 2, Switch: 1, SwitchE: 5, Sems: 1, Horizon: 300}
}

// sleeping is a machine with two sleep states: the second one is deeper.
func sleeping() api.Platform {
	return api.Platform{
		Levels: []api.Level{{P: 1, E: 5}}, Idle: 5, Sems: 1, Horizon: 3000,
		Sleeps: []api.Sleep{
			{Power: 3, Enter: 1, Exit: 2, EnterE: 1, ExitE: 2, Even: 4},
			{Power: 1, Enter: 2, Exit: 3, EnterE: 4, ExitE: 6, Even: 6},
		},
	}
}

// spun is a device.
var spun = api.Device{On: 4, Off: 1, Down: 1, Up: 2, DownE: 3, UpE: 5, Even: 9}

// spinning is a bare machine with these devices.
func spinning(list ...api.Device) api.Platform {
	p := bare(400)
	p.Devices = list
	return p
}

// greatest is a machine with as much of all as there may be.
func greatest() api.Platform {
	m := api.Platform{Idle: api.MaxPower, Crit: 3, Switch: api.MaxLatency, SwitchE: api.MaxPower, Sems: api.MaxSems, Horizon: api.MaxHorizon}
	for _, p := range []int{1, 2, 3, api.MaxLatency} {
		m.Levels = append(m.Levels, api.Level{P: p, E: api.MaxPower})
	}
	for range api.MaxSleeps {
		m.Sleeps = append(m.Sleeps, api.Sleep{Power: api.MaxPower, Enter: api.MaxLatency, Exit: api.MaxLatency, EnterE: api.MaxPower, ExitE: api.MaxPower, Even: api.MaxHorizon})
	}
	for range api.MaxDevices {
		m.Devices = append(m.Devices, api.Device{On: api.MaxPower, Off: api.MaxPower, Down: api.MaxLatency, Up: api.MaxLatency, DownE: api.MaxPower, UpE: api.MaxPower, Even: api.MaxHorizon})
	}
	return m
}

// machines are some that may be.
func machines() []api.Platform {
	return []api.Platform{bare(1), bare(api.MaxHorizon), locking(), slowing(), sleeping(), spinning(spun, spun), greatest()}
}

// P20.1: a machine that may not be.
func TestNewError(t *testing.T) {
	change := func(do func(*api.Platform)) api.Platform {
		m := sleeping()
		m.Devices = []api.Device{spun}
		do(&m)
		return m
	}
	for i, m := range []api.Platform{
		{},
		{Levels: []api.Level{}, Horizon: 1},
		{Horizon: 5},
		bare(0), bare(-1), bare(math.MinInt), bare(api.MaxHorizon + 1), bare(math.MaxInt),
		change(func(m *api.Platform) { m.Crit = 1 }),
		change(func(m *api.Platform) { m.Crit = -1 }),
		change(func(m *api.Platform) { m.Sems = api.MaxSems + 1 }),
		change(func(m *api.Platform) { m.Sems = -1 }),
		change(func(m *api.Platform) { m.Idle = -1 }),
		change(func(m *api.Platform) { m.Switch = math.MaxInt }),
		change(func(m *api.Platform) { m.SwitchE = math.MinInt }),
		change(func(m *api.Platform) { m.Levels[0].P = 0 }),
		change(func(m *api.Platform) { m.Levels[0].E = -1 }),
		change(func(m *api.Platform) { m.Sleeps[1].Even = 4 }),
		change(func(m *api.Platform) { m.Sleeps[0].Power = 6 }),
		change(func(m *api.Platform) { m.Sleeps = append(m.Sleeps, m.Sleeps...) }),
		change(func(m *api.Platform) { m.Devices[0].Even = 1 }),
		change(func(m *api.Platform) { m.Devices[0].Off = 5 }),
		change(func(m *api.Platform) { m.Devices = append(m.Devices, spun, spun, spun) }),
	} {
		for range 2 {
			if k, e := New(m); k != nil || e != api.ErrTable {
				t.Errorf("%d: New is %v, %d, not nil, ErrTable", i, k, e)
			}
		}
	}
	if k, e := New(change(func(*api.Platform) {})); k == nil || e != api.OK {
		t.Errorf("New is %v, %d", k, e)
	}
}

// blank is all that there is of a new kernel.
func blank() view {
	n := len(numbers)
	return view{Tasks: make([]api.Task, api.MaxTasks), Next: make([]int, n), Used: make([]int, n), Devices: make([]dev.Dev, n), Spent: make([]int, n)}
}

// P20.1, P20.10: all that there is at the beginning.
func TestNew(t *testing.T) {
	for _, m := range machines() {
		for range 2 {
			if got := seen(t, begin(t, m).k); !reflect.DeepEqual(got, blank()) {
				t.Errorf("of %+v there is\n%+v", m, got)
			}
		}
	}
}

// P20.1: the policy is Full at the beginning, and the CPU may not sleep.
func TestNewPolicy(t *testing.T) {
	b := told(t, slowing(), admits(api.Task{Period: 50, Cycles: 3}), arrives(0, 0, 3), ticks(4))
	b.did(t, ran(0, 0, 3, 3), idled(1))
	b = told(t, sleeping(), ticks(40))
	b.did(t, idled(40))
}

// P20.1, R4: the machine is the one that was handed in, whatever is done to it
// then: levels, sleep states and devices.
func TestMachineIsKept(t *testing.T) {
	m := sleeping()
	m.Levels, m.Crit, m.Devices = []api.Level{{P: 2, E: 30}, {P: 4, E: 20}}, 1, []api.Device{spun}
	handed := roomyMachine(m)
	k, e := New(handed)
	if e != api.OK {
		t.Fatal(e)
	}
	fill(handed.Levels, api.Level{P: 7, E: 7})
	fill(handed.Sleeps, api.Sleep{Power: 7, Enter: 7, Exit: 7, EnterE: 7, ExitE: 7, Even: 1})
	fill(handed.Devices, api.Device{On: 7, Off: 7, Even: 50})
	for _, x := range []api.Step{policy(api.Lazy, 1), admits(api.Task{Period: 40, Cycles: 2}), arrives(0, 0, 2), ticks(8), ticks(6)} {
		if _, e := k.Do(x); e != api.OK {
			t.Fatal(x, e)
		}
	}
	want := []api.Interval{
		{Kind: api.Switch, Arg: 1}, {Kind: api.Run, Len: 8, Arg: 1, Cycles: 2},
		{Kind: api.Enter, From: 8, Len: 2, Arg: 1}, {Kind: api.Asleep, From: 10, Len: 4, Arg: 1},
	}
	if got := k.Trace(); !slices.Equal(got, want) {
		t.Errorf("the trace is %v", got)
	}
	if got := k.Meter(); got != (meter.Meter{Run: 40, Sleep: 8}) {
		t.Errorf("the meter is %+v", got)
	}
	if k.Device(0) != (dev.Dev{Until: api.Never}) || k.Spent(0) != 3+13 {
		t.Errorf("device 0 is %+v, and has cost %d", k.Device(0), k.Spent(0))
	}
}

// kinds are one step of each kind, and of none, each of which has an error of
// its own, or none.
func kinds() []api.Step {
	list := []api.Step{
		admits(api.Task{Period: 5, Cycles: 1}), admits(api.Task{}), removes(0), removes(5), arrives(0, 0, 1), arrives(0, 300, 1), arrives(9, 0, 1),
		ticks(0), ticks(1), ticks(-1), takesSem(0), givesSem(0), policy(1, 1), policy(-1, 0), sets(0, 0, 0), sets(-1, 0, 0), cancels(1), cancels(3),
	}
	for _, n := range append([]int{10, 11}, ends...) {
		if n < api.StepAdmit || n > api.StepCancel {
			list = append(list, api.Step{Kind: n}, api.Step{Kind: n, A: 1, B: 1, C: 1, Task: api.Task{Period: 9, Cycles: 1}})
		}
	}
	return list
}

// P20.2: just ahead of the Horizon each step has its own answer; at it and
// behind it the answer is ErrHorizon, whatever the step is.
func TestHorizon(t *testing.T) {
	first := []api.Step{admits(api.Task{Period: 8, Cycles: 1}), sets(1, 40, 0)}
	want := []api.Errno{
		api.OK, api.ErrTask, api.OK, api.ErrNone, api.OK, api.OK, api.ErrNone,
		api.OK, api.OK, api.ErrArg, api.ErrIdle, api.ErrIdle, api.OK, api.ErrArg, api.OK, api.ErrArg, api.OK, api.ErrNone,
	}
	for i, x := range kinds() {
		b := told(t, bare(20), append(first, ticks(19))...)
		if _, e := b.do(t, x); i < len(want) && e != want[i] || i >= len(want) && e != api.ErrArg {
			t.Errorf("at 19 Do(%+v) is %d", x, e)
		}
	}
	b := told(t, bare(20), append(first, ticks(20))...)
	number(t, "Now", b.k.Now(), 20)
	for _, x := range kinds() {
		b.refuses(t, x, api.ErrHorizon)
	}
}

// P20.2, P20.6: a Run, a Switch, an Enter and an Exit may end behind the
// Horizon.
func TestBehindHorizon(t *testing.T) {
	slow := slowing()
	slow.Horizon = 100
	slow.Levels, slow.Crit = []api.Level{{P: 3, E: 9}}, 0
	run := told(t, slow, admits(api.Task{Period: 60, Cycles: 9}), ticks(98), arrives(0, 0, 9), ticks(1))
	run.did(t, idled(98), ran(0, 0, 3, 1))

	slow = slowing()
	slow.Horizon, slow.Switch = 100, 5
	change := told(t, slow, policy(api.Lazy, 0), admits(api.Task{Period: 90, Cycles: 2}), ticks(99), arrives(0, 0, 2), ticks(api.MaxHorizon))
	change.did(t, idled(99), switched(2, 5))

	asleep := sleeping()
	asleep.Horizon = 100
	enter := told(t, asleep, ticks(99), policy(api.Full, 1), ticks(2))
	enter.did(t, idled(99), entered(1, 2))

	asleep.Horizon = 1023
	exit := told(t, asleep, policy(api.Full, 1), ticks(1022))
	exit.did(t, entered(1, 2), slept(1, 1019), left(1, 3))
	if exit.k.Asleep() || !enter.k.Asleep() {
		t.Error("asleep, or not")
	}
	for _, b := range []*pair{run, change, enter, exit} {
		if b.k.Now() <= b.p.machine.Horizon {
			t.Errorf("it is %d", b.k.Now())
		}
		for _, x := range kinds() {
			b.refuses(t, x, api.ErrHorizon)
		}
	}
}

// P20.2: steps of no kind, whatever their other numbers are.
func TestNoKind(t *testing.T) {
	m := spinning(spun)
	m.Sems = 1
	first := []api.Step{admits(api.Task{Period: 30, Cycles: 9, Sec: []int{3}}), arrives(0, 0, 9), ticks(2), sets(1, 4, 0)}
	for _, b := range []*pair{begin(t, m), told(t, m, first...)} {
		for _, kind := range append([]int{-9, 10, 11, 1000}, ends...) {
			if kind >= api.StepAdmit && kind <= api.StepCancel {
				continue
			}
			for _, x := range []api.Step{{}, admits(api.Task{Period: 90, Cycles: 1, Sec: []int{1}, Devs: []int{0}}), arrives(0, 40, 1), ticks(1), policy(1, 1), sets(1, 0, 0)} {
				x.Kind = kind
				b.refuses(t, x, api.ErrArg)
			}
		}
	}
}

// P20.2, R6: behind a step that answers OK there is a boundary, behind one
// with an error there is none: at the beginning, when no boundary was yet, it
// shows in the devices that go away.
func TestBoundaryBehindOK(t *testing.T) {
	m := spinning(spun, spun)
	m.Sems = 1
	for _, x := range []api.Step{
		admits(api.Task{Period: 30, Cycles: 2}), ticks(0), policy(api.Full, 0), policy(api.Lazy, 1), sets(0, 0, 0), sets(3, 5, 5),
	} {
		b := begin(t, m)
		b.takes(t, x)
		for d := range 2 {
			if got := b.k.Device(d); got != (dev.Dev{From: 0, Until: api.Never}) {
				t.Errorf("behind %+v device %d is %+v", x, d, got)
			}
		}
	}
	b := begin(t, m)
	for x, e := range map[int]api.Errno{api.StepAdmit: api.ErrTask, api.StepRemove: api.ErrNone, api.StepArrive: api.ErrNone, api.StepLock: api.ErrIdle, api.StepUnlock: api.ErrIdle, api.StepCancel: api.ErrNone, 0: api.ErrArg, 10: api.ErrArg} {
		b.refuses(t, api.Step{Kind: x}, e)
	}
	b.refuses(t, ticks(-1), api.ErrArg)
	b.refuses(t, policy(4, 0), api.ErrArg)
	b.refuses(t, sets(4, 0, 0), api.ErrArg)
	b.refuses(t, admits(api.Task{Period: 3, Cycles: 3}), api.ErrLoad)
	for d := range 2 {
		if got := b.k.Device(d); got != (dev.Dev{}) {
			t.Errorf("device %d is %+v", d, got)
		}
	}
}

// P20.2: what the boundary behind a step has: jobs that come, timers that are
// due, and devices that go away.
func TestBoundary(t *testing.T) {
	b := told(t, spinning(spun), admits(api.Task{Period: 30, Cycles: 2, Devs: []int{0}}), admits(api.Task{Period: 40, Cycles: 2}))
	b.takes(t, arrives(1, 0, 2))
	b.events(t, released(1, 0, 40))
	b.takes(t, sets(2, 0, 0))
	b.events(t, released(1, 0, 40), expired(2, 0, 0))
	if got := b.k.Device(0); got != (dev.Dev{}) {
		t.Errorf("device 0 is %+v", got)
	}
	b.takes(t, removes(0))
	if got := b.k.Device(0); got != (dev.Dev{From: 0, Until: api.Never}) {
		t.Errorf("device 0 is %+v", got)
	}
	// A job that comes later lets it go away at once.
	b = told(t, spinning(spun), admits(api.Task{Period: 30, Cycles: 2, Devs: []int{0}}), ticks(3))
	b.takes(t, arrives(0, 8, 2))
	if got := b.k.Device(0); got != (dev.Dev{}) {
		t.Errorf("device 0 is %+v", got)
	}
	b = told(t, spinning(spun), admits(api.Task{Period: 30, Cycles: 2, Devs: []int{0}}), ticks(3))
	b.takes(t, arrives(0, 9, 2))
	if got := b.k.Device(0); got != (dev.Dev{From: 3, Until: 12}) {
		t.Errorf("device 0 is %+v", got)
	}
}

// P20.2: within one boundary jobs come first, by their moments and then by
// tasks, then timers, by their moments and then by numbers, then devices: a
// job that comes keeps its device.
func TestBoundaryInOrder(t *testing.T) {
	m := spinning(spun)
	m.Levels[0].P = 5
	b := told(t, m)
	for n := range 4 {
		x := api.Task{Period: 100 + n, Cycles: 2}
		if n == 2 {
			x.Devs = []int{0}
		}
		b.takes(t, admits(x))
	}
	b.takes(t, ticks(20)) // device 0 is called at 0, and is on at 9
	b.takes(t, arrives(0, 0, 1), arrives(1, 3, 1), arrives(2, 2, 1), arrives(3, 2, 1))
	b.takes(t, sets(0, 5, 0), sets(1, 4, 1), sets(2, 1, 3), sets(3, 6, 0), ticks(1))
	b.events(t,
		released(0, 20, 120),
		finished(0, 25, 120),
		released(2, 22, 124), released(3, 22, 125), released(1, 23, 124),
		expired(2, 25, 21), expired(1, 25, 24), expired(2, 25, 24), expired(0, 25, 25), expired(1, 25, 25),
	)
	if got := b.k.Device(0); got != (dev.Dev{From: 0, Until: 9}) {
		t.Errorf("device 0 is %+v", got)
	}
	b.takes(t, ticks(10))
	if got := b.k.Device(0); got != (dev.Dev{From: 35, Until: 124}) {
		t.Errorf("device 0 is %+v", got)
	}
}

// P20.11
func TestNil(t *testing.T) {
	var k *Kernel
	for _, a := range ends {
		for kind := -1; kind <= 11; kind++ {
			for _, x := range []api.Step{{Kind: kind}, {Kind: kind, A: a, B: a, C: a}, {Kind: a, A: 1}, {Kind: kind, A: a, Task: api.Task{Period: 9, Cycles: 1, Sec: []int{a}, Devs: []int{a}}}} {
				if n, e := k.Do(x); n != 0 || e != api.ErrArg {
					t.Fatalf("Do(%+v) is %d, %d", x, n, e)
				}
			}
		}
		if k.Next(a) != 0 || k.Used(a) != 0 || k.Device(a) != (dev.Dev{}) || k.Spent(a) != 0 {
			t.Errorf("of %d there is something", a)
		}
	}
	want := blank()
	want.Tasks = nil
	if got := seen(t, k); !reflect.DeepEqual(got, want) {
		t.Errorf("there is %+v", got)
	}
}

// The chapter says nothing of a Kernel that New did not make: its time is
// over, and nothing panics.
func TestZero(t *testing.T) {
	k := &Kernel{}
	for _, x := range kinds() {
		if n, e := k.Do(x); n != 0 || e != api.ErrHorizon {
			t.Errorf("Do(%+v) is %d, %d", x, n, e)
		}
	}
	if got := seen(t, k); !reflect.DeepEqual(got, blank()) {
		t.Errorf("there is %+v", got)
	}
}

// P20.3 to P20.6: the chapter's first example.
func TestFirstExample(t *testing.T) {
	b := begin(t, bare(100))
	number(t, "the number", b.takes(t, admits(api.Task{Period: 10, Cycles: 2})), 0)
	b.takes(t, arrives(0, 0, 2), ticks(3))
	b.events(t, released(0, 0, 10), finished(0, 2, 10))
	b.did(t, ran(0, 0, 2, 2), idled(1))
}

// P20.6: the chapter's second example.
func TestSecondExample(t *testing.T) {
	b := told(t, bare(100), admits(api.Task{Period: 10, Cycles: 2}), arrives(0, 0, 5), ticks(3))
	b.events(t, released(0, 0, 10), cut(0, 2, 10))
	b.did(t, ran(0, 0, 2, 2), idled(1))
}

// P20.5: the chapter's third example.
func TestThirdExample(t *testing.T) {
	b := told(t, bare(100), admits(api.Task{Period: 10, Cycles: 2}), arrives(0, 0, 2), ticks(3))
	b.refuses(t, arrives(0, 0, 2), api.ErrEarly)
	b = told(t, bare(100), admits(api.Task{Period: 10, Cycles: 2}), arrives(0, 0, 2))
	b.refuses(t, arrives(0, 3, 2), api.ErrEarly)
}

// P20.10: all of it behind each step of a short script, number by number.
func TestWhatThereIs(t *testing.T) {
	m := slowing()
	m.Devices = []api.Device{spun}
	b := begin(t, m)
	want := blank()
	is := func(name string) {
		t.Helper()
		if got := seen(t, b.k); !reflect.DeepEqual(got, want) {
			t.Fatalf("%s: there is\n%+v\nnot\n%+v", name, got, want)
		}
	}
	at := func(n int) int { return slices.Index(numbers, n) }

	b.takes(t, policy(api.Static, 0))
	want.Devices[at(0)] = dev.Dev{Until: api.Never}
	want.Spent[at(0)] = 3
	is("a policy")

	b.takes(t, admits(api.Task{Period: 60, Cycles: 4, Sec: []int{3}, Devs: []int{0}}))
	want.Tasks[0] = api.Task{Period: 60, Cycles: 4, Sec: []int{3}, Devs: []int{0}}
	want.Next[at(0)], want.Used[at(0)] = 9, 4
	want.Devices[at(0)].Until = 9
	is("a task")

	b.takes(t, admits(api.Task{Period: 30, Cycles: 1}))
	want.Tasks[1] = api.Task{Period: 30, Cycles: 1}
	want.Used[at(1)] = 1
	is("another one")

	b.takes(t, arrives(0, 10, 4))
	want.Next[at(0)] = 10
	is("a job that is latched")

	b.takes(t, ticks(10))
	want.Now = 10
	want.Jobs = []api.Job{{Task: 0, Release: 10, Deadline: 70, Left: 4, Real: 4}}
	want.Next[at(0)] = 70
	want.Spent[at(0)] = 3 + 6 + 5 + 4
	want.Trace = []api.Interval{{Kind: api.Idle, Len: 10}}
	want.Events = []api.Event{released(0, 10, 70)}
	is("ten quanta")

	b.takes(t, ticks(2))
	want.Now, want.Level = 14, 2
	want.Jobs[0].Left, want.Jobs[0].Real, want.Jobs[0].Started = 3, 3, true
	want.Stack = []int{0}
	want.Spent[at(0)] += 16
	want.Trace = append(want.Trace, api.Interval{Kind: api.Switch, From: 10, Len: 1, Arg: 2}, api.Interval{Kind: api.Run, From: 11, Len: 3, Arg: 2, Cycles: 1})
	want.Meter.Switch, want.Meter.Run = 5, 3
	is("a Switch, and a cycle")

	b.takes(t, takesSem(0))
	want.Held = []locks.Held{{Task: 0, Sem: 0, Left: 3}}
	is("a semaphore")

	b.takes(t, arrives(1, 0, 2))
	want.Jobs = append([]api.Job{{Task: 1, Release: 14, Deadline: 44, Left: 1, Real: 2}}, want.Jobs...)
	want.Next[at(1)] = 44
	want.Events = append(want.Events, released(1, 14, 44))
	is("a job that comes")

	b.takes(t, ticks(1))
	want.Now = 17
	want.Jobs = want.Jobs[1:]
	want.Used[at(1)] = 1
	want.Spent[at(0)] += 12
	want.Trace = append(want.Trace, api.Interval{Kind: api.Run, From: 14, Len: 3, Arg: 2, Task: 1, Cycles: 1})
	want.Meter.Run = 6
	want.Events = append(want.Events, cut(1, 17, 44))
	is("it is cut")

	b.takes(t, ticks(9))
	want.Now = 26
	want.Jobs, want.Stack, want.Held = nil, nil, nil
	want.Used[at(0)] = 4
	want.Devices[at(0)] = dev.Dev{From: 26, Until: 70}
	want.Spent[at(0)] += 36 + 3
	want.Trace = append(want.Trace, api.Interval{Kind: api.Run, From: 17, Len: 9, Arg: 2, Cycles: 3})
	want.Meter.Run = 15
	want.Events = append(want.Events, finished(0, 26, 70))
	is("the other one has finished")

	b.takes(t, removes(1))
	want.Tasks[1] = api.Task{}
	want.Next[at(1)], want.Used[at(1)] = 0, 0
	is("a task has gone")

	b.takes(t, ticks(50))
	want.Now = 76
	want.Spent[at(0)] += 41 + 5 + 6*4
	want.Trace = append(want.Trace, api.Interval{Kind: api.Idle, From: 26, Len: 50})
	is("fifty quanta")
}

// P20.10: what a device has cost: never away; Down, Off, Up and on again; and
// more than once.
func TestSpent(t *testing.T) {
	b := told(t, spinning(spun, spun), admits(api.Task{Period: 20, Cycles: 1, Devs: []int{1}}))
	for now := range 5 { // device 1 never goes: a job may come at any moment
		number(t, "Spent(1)", b.k.Spent(1), 4*now)
		if b.k.Device(1) != (dev.Dev{}) {
			t.Errorf("device 1 is %+v", b.k.Device(1))
		}
		b.takes(t, ticks(1))
	}
	// It comes at 15: until then it is away, from 5 on.
	b.takes(t, arrives(0, 10, 1))
	want := []int{20 + 3, 23, 24, 25, 26, 27, 28, 29, 30 + 5, 35, 35, 39}
	for i, n := range want {
		number(t, "Now", b.k.Now(), 5+i)
		number(t, "Spent(1)", b.k.Spent(1), n)
		if i < 11 && b.k.Device(1) != (dev.Dev{From: 5, Until: 15}) {
			t.Errorf("at %d device 1 is %+v", b.k.Now(), b.k.Device(1))
		}
		b.takes(t, ticks(1))
		if i == 10 {
			// The job has finished at 16: it is away again, till 35.
			if b.k.Device(1) != (dev.Dev{From: 16, Until: 35}) {
				t.Errorf("at 16 device 1 is %+v", b.k.Device(1))
			}
			want[11] += 3
		}
	}
	number(t, "Now", b.k.Now(), 17)
	number(t, "Spent(1)", b.k.Spent(1), 42)
	b.takes(t, ticks(20))
	number(t, "Spent(1)", b.k.Spent(1), 42+16+5+8)
	b.takes(t, arrives(0, 0, 1), ticks(1))
	number(t, "Spent(1)", b.k.Spent(1), 42+16+5+8+4+3)
	// Device 0 is needed by nobody, and is not called.
	number(t, "Spent(0)", b.k.Spent(0), 3+37)
}

// P20.10: numbers of tasks and devices that there are not.
func TestNoSuchNumber(t *testing.T) {
	m := spinning(spun, spun)
	b := told(t, m, admits(api.Task{Period: 20, Cycles: 3}), admits(api.Task{Period: 30, Cycles: 2}), arrives(0, 4, 1), arrives(1, 5, 1), ticks(3))
	for _, n := range append([]int{2, 3, 5, 6, 7, 64}, ends...) {
		isTask, isDevice := n == 0 || n == 1, n == 0 || n == 1
		if (b.k.Next(n) != 0) != isTask || (b.k.Used(n) != 0) != isTask {
			t.Errorf("Next(%d) is %d, Used(%d) is %d", n, b.k.Next(n), n, b.k.Used(n))
		}
		if (b.k.Device(n) != dev.Dev{}) != isDevice || (b.k.Spent(n) != 0) != isDevice {
			t.Errorf("Device(%d) is %+v, Spent(%d) is %d", n, b.k.Device(n), n, b.k.Spent(n))
		}
	}
}

// P20.10: jobs by their deadlines, and then by tasks; the stack by the order in
// which they were started; what is held by the order in which it was taken.
func TestOrders(t *testing.T) {
	m := locking()
	b := begin(t, m)
	for _, period := range []int{90, 60, 60, 30} {
		b.takes(t, admits(api.Task{Period: period, Cycles: 5, Sec: []int{0, 2, 2}}))
	}
	b.takes(t, arrives(0, 0, 5), ticks(1))
	b.takes(t, arrives(2, 0, 5), arrives(1, 0, 5), ticks(1), arrives(3, 1, 5), ticks(2))
	tasks := func(list []api.Job) (l []int) {
		for _, j := range list {
			l = append(l, j.Task)
		}
		return l
	}
	if got := tasks(b.k.Jobs()); !slices.Equal(got, []int{3, 1, 2, 0}) {
		t.Errorf("the jobs are those of %v", got)
	}
	if got := b.k.Stack(); !slices.Equal(got, []int{0, 1, 3}) {
		t.Errorf("the stack is %v", got)
	}
	b.takes(t, takesSem(2), takesSem(1))
	if got := b.k.Held(); !slices.Equal(got, []locks.Held{{Task: 3, Sem: 2, Left: 2}, {Task: 3, Sem: 1, Left: 2}}) {
		t.Errorf("what is held is %v", got)
	}
}

// P20.10, R4: no two lists of one answer share memory, nor do two answers.
func TestListsApart(t *testing.T) {
	m := spinning(spun, spun)
	m.Sems = 2
	x := api.Task{Period: 90, Cycles: 5, Sec: []int{2, 3}, Devs: []int{0, 1}}
	b := told(t, m, admits(x), admits(x), admits(x), arrives(0, 50, 5), arrives(1, 50, 5), ticks(52), takesSem(0), takesSem(1), ticks(1))
	for i := range 3 {
		one, two := b.k.Tasks(), b.k.Tasks()
		fill(one[i].Sec, 9)
		for j := range 3 {
			if j != i && !reflect.DeepEqual(one[j], x) || !reflect.DeepEqual(two[j], x) {
				t.Errorf("tasks %d and %d share something", i, j)
			}
		}
		if !slices.Equal(one[i].Devs, x.Devs) {
			t.Errorf("the lists of task %d share something", i)
		}
		fill(two[i].Devs, 9)
		for j := range 3 {
			if j != i && !reflect.DeepEqual(two[j], x) {
				t.Errorf("tasks %d and %d share something", i, j)
			}
		}
		if !slices.Equal(two[i].Sec, x.Sec) {
			t.Errorf("the lists of task %d share something", i)
		}
	}
	one, two := ask(b.k), ask(b.k)
	was := two.copy()
	one.turn()
	if !reflect.DeepEqual(two.copy(), was) {
		t.Error("two answers share something")
	}
	if len(was.Jobs) != 2 || len(was.Stack) != 1 || len(was.Held) != 2 || len(was.Trace) != 2 || len(was.Events) != 2 {
		t.Errorf("too little is there: %+v", was)
	}
}

// R4: a task that was handed in is not kept, its lists being changed then, and
// appended to within their spare room.
func TestTaskIsKept(t *testing.T) {
	m := spinning(spun)
	m.Sems = 2
	k, _ := New(m)
	sec, devs := append(make([]int, 0, 4), 2), append(make([]int, 0, 3), 0)
	if _, e := k.Do(admits(api.Task{Period: 50, Cycles: 4, Sec: sec, Devs: devs})); e != api.OK {
		t.Fatal(e)
	}
	sec[0], devs[0] = 4, 2
	_, _ = append(sec, 3), append(devs, 1)
	want := api.Task{Period: 50, Cycles: 4, Sec: []int{2}, Devs: []int{0}}
	if got := k.Tasks()[0]; !reflect.DeepEqual(got, want) {
		t.Errorf("task 0 is %+v", got)
	}
	for _, x := range []api.Step{arrives(0, 9, 4), ticks(10), takesSem(0)} {
		if _, e := k.Do(x); e != api.OK {
			t.Fatal(x, e)
		}
	}
	if got := k.Held(); !slices.Equal(got, []locks.Held{{Task: 0, Sem: 0, Left: 2}}) {
		t.Errorf("what is held is %v", got)
	}
}

// R5: two kernels that are used by turns do not touch one another.
func TestApart(t *testing.T) {
	m := sleeping()
	m.Devices = []api.Device{spun}
	a, b := begin(t, m), begin(t, m)
	a.takes(t, policy(api.Full, 1))
	b.takes(t, admits(api.Task{Period: 30, Cycles: 5, Sec: []int{4}, Devs: []int{0}}))
	a.takes(t, ticks(5))
	b.takes(t, arrives(0, 0, 5), ticks(2))
	a.takes(t, admits(api.Task{Period: 40, Cycles: 1}), sets(0, 2, 2))
	b.takes(t, takesSem(0), sets(0, 9, 0))
	a.takes(t, ticks(9))
	b.takes(t, ticks(1), givesSem(0))
	a.same(t, "turns")
	a.refuses(t, takesSem(0), api.ErrIdle)
	b.refuses(t, arrives(0, 0, 5), api.ErrEarly)
	a.refuses(t, removes(1), api.ErrNone)
	b.takes(t, ticks(9))
	a.takes(t, cancels(0))
	b.refuses(t, cancels(0), api.ErrNone)
	b.same(t, "turns")
}

// R5: of what has ended nothing is kept.
func TestNothingKept(t *testing.T) {
	m := locking()
	b := told(t, m, admits(api.Task{Period: 20, Cycles: 4, Sec: []int{4}}), admits(api.Task{Period: 10, Cycles: 2}))
	for range 5 {
		b.takes(t, arrives(0, 0, 4), arrives(1, 0, 9), sets(1, 3, 0), sets(2, 1, 2), ticks(3), takesSem(0), ticks(17), cancels(2))
		b.takes(t, removes(1), admits(api.Task{Period: 10, Cycles: 2}))
		if k := b.k; k.latched.Len() != 0 || len(k.ready.List()) != 0 || len(k.stack) != 0 || len(k.locks.List()) != 0 || k.timers.Len() != 0 || len(k.places) != 2 {
			t.Fatalf("at %d something is kept: %+v", k.now, k)
		}
	}
}
