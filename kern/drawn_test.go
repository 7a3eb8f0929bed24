package kern

import (
	"math/rand/v2"
	"reflect"
	"slices"
	"testing"

	"dormouse/admit"
	"dormouse/api"
	"dormouse/dev"
	"dormouse/table"
)

// drawer draws machines, tasks and steps.
type drawer struct {
	r *rand.Rand
	// odd is how many of a hundred steps are any steps at all.
	odd int
}

// of is a number from a to b.
func (d drawer) of(a, b int) int { return a + d.r.IntN(b-a+1) }

// chance is true n times of a hundred.
func (d drawer) chance(n int) bool { return d.r.IntN(100) < n }

// levels are levels and a Crit that go with that Idle.
func (d drawer) levels(idle int) ([]api.Level, int) {
	count := d.of(1, api.MaxLevels)
	var over []int
	for range count {
		over = append(over, d.of(0, 60))
	}
	slices.Sort(over)
	slices.Reverse(over)
	var list []api.Level
	for i, pace := 0, 0; i < count; i++ {
		pace += d.of(1, 3)
		list = append(list, api.Level{P: pace, E: pace*idle + over[i]})
	}
	return list, d.of(0, count-1)
}

// sleep is a state that saves something; false, if none was found.
func (d drawer) sleep(idle int) (api.Sleep, bool) {
	s := api.Sleep{Power: d.of(0, idle), Enter: d.of(0, 4), Exit: d.of(0, 4), EnterE: d.of(0, 12), ExitE: d.of(0, 12)}
	for s.Even = max(1, s.Enter+s.Exit) + d.of(0, 3); s.Even < 60; s.Even++ {
		if s.EnterE+s.ExitE+s.Power*(s.Even-s.Enter-s.Exit) <= idle*s.Even {
			return s, true
		}
	}
	return s, false
}

// device is a device that is worth sending away; false, if none was found.
func (d drawer) device() (api.Device, bool) {
	s, ok := d.sleep(d.of(0, 9))
	for on := s.Power; ok && on < 99; on++ {
		if s.EnterE+s.ExitE+s.Power*(s.Even-s.Enter-s.Exit) <= on*s.Even {
			return api.Device{On: on, Off: s.Power, Down: s.Enter, Up: s.Exit, DownE: s.EnterE, UpE: s.ExitE, Even: s.Even}, true
		}
	}
	return api.Device{}, false
}

// machine is a machine that may be.
func (d drawer) machine(t *testing.T, horizon int) api.Platform {
	t.Helper()
	p := api.Platform{Idle: d.of(0, 8), Switch: d.of(0, 3), SwitchE: d.of(0, 9), Sems: d.of(0, api.MaxSems), Horizon: d.of(horizon/2, horizon)}
	if d.chance(30) {
		p.Switch = 0
	}
	p.Levels, p.Crit = d.levels(p.Idle)
	for range d.of(0, api.MaxSleeps) {
		if s, ok := d.sleep(p.Idle); ok {
			p.Sleeps = append(p.Sleeps, s)
		}
	}
	for range d.of(0, api.MaxDevices) {
		if x, ok := d.device(); ok {
			p.Devices = append(p.Devices, x)
		}
	}
	if table.Check(p) != api.OK {
		t.Fatalf("a machine that may not be: %+v", p)
	}
	return p
}

// task is a task that may be on that machine, if its Horizon is not too small.
func (d drawer) task(p api.Platform) api.Task {
	x := api.Task{Period: d.of(8, 100), Cycles: d.of(1, 6)}
	if d.chance(30) {
		x.Period = d.of(60, 200)
		x.Cycles = d.of(3, 30)
	}
	for range d.of(0, p.Sems) {
		x.Sec = append(x.Sec, d.of(0, min(4, x.Cycles)))
	}
	for n := range p.Devices {
		if d.chance(25) {
			x.Devs = append(x.Devs, n)
		}
	}
	return x
}

// any is a number of no kind: small, at an end, or anything.
func (d drawer) any() int {
	switch d.r.IntN(4) {
	case 0:
		return ends[d.r.IntN(len(ends))]
	case 1:
		return int(d.r.Uint64())
	}
	return d.of(-2, 9)
}

// oddStep is a step of any kind, with numbers of no kind.
func (d drawer) oddStep(p api.Platform) api.Step {
	x := api.Step{Kind: d.of(0, 10), A: d.any(), B: d.any(), C: d.any()}
	if d.chance(10) {
		x.Kind = d.any()
	}
	if d.chance(20) {
		x.Kind = d.of(api.StepLock, api.StepUnlock)
		x.A = d.of(-1, api.MaxSems)
	}
	x.Task = d.task(p)
	if d.chance(50) {
		x.Task.Period, x.Task.Cycles = d.any(), d.any()
	}
	if d.chance(20) {
		x.Task.Sec = append(x.Task.Sec, d.any())
	}
	if d.chance(20) {
		x.Task.Devs = append(x.Task.Devs, d.any())
	}
	return x
}

// pick is one of a list; other, if it is empty, and now and then.
func (d drawer) pick(list []int, other int) int {
	if len(list) == 0 || d.chance(10) {
		return other
	}
	return list[d.r.IntN(len(list))]
}

// arrival is a job that may come.
func (d drawer) arrival(k *plain) api.Step {
	var free []int
	for n, s := range k.slots {
		if s.task.Period > 0 && len(s.coming) == 0 {
			free = append(free, n)
		}
	}
	n := d.pick(free, d.of(0, api.MaxTasks-1))
	after, cycles := max(0, k.slots[n].next-k.now), d.of(1, 7)
	if d.chance(40) {
		after += d.of(-1, 12)
	}
	if most := k.slots[n].task.Cycles; most > 0 && d.chance(80) {
		cycles = d.of(1, most)
	}
	return arrives(n, after, cycles)
}

// semaphore is a semaphore, more often than not one that the task that runs
// uses.
func (d drawer) semaphore(k *plain) int {
	var list []int
	if n, ok := k.choose(); ok {
		for s := range k.slots[n].task.Sec {
			if uses(k.slots[n].task, s) {
				list = append(list, s)
			}
		}
	}
	return d.pick(list, d.of(0, api.MaxSems-1))
}

// step is a step that a script may have at this moment.
func (d drawer) step(k *plain) api.Step {
	if d.chance(d.odd) {
		return d.oddStep(k.machine)
	}
	if len(k.held) > 0 && d.chance(8) {
		return givesSem(k.held[len(k.held)-1].Sem)
	}
	switch w := d.r.IntN(100); {
	case w < 4:
		return admits(d.task(k.machine))
	case w < 6:
		return removes(d.of(0, api.MaxTasks-1))
	case w < 32:
		return d.arrival(k)
	case w < 48:
		return takesSem(d.semaphore(k))
	case w < 54:
		return givesSem(d.semaphore(k))
	case w < 57:
		return policy(d.of(0, 3), d.of(0, 1))
	case w < 59:
		return sets(d.of(0, api.MaxTimers-1), d.of(0, 30), d.of(0, 12))
	case w < 60:
		return cancels(d.of(0, api.MaxTimers-1))
	case w < 97:
		return ticks(d.of(0, 4))
	}
	return ticks(d.of(0, 30))
}

// beginning are the first steps of a script: a policy, and some tasks.
func (d drawer) beginning(p api.Platform) []api.Step {
	list := []api.Step{policy(d.of(0, 3), d.of(0, 1))}
	for range d.of(1, 9) {
		list = append(list, admits(d.task(p)))
	}
	return list
}

// script calls do with each step of a script, one by one.
func (d drawer) script(k *plain, steps int, do func(api.Step)) {
	for _, x := range d.beginning(k.machine) {
		do(x)
	}
	for range steps {
		do(d.step(k))
	}
}

// counts are how often each thing was there.
type counts struct {
	Taken, Refused    [11]int // by kinds, 0 and 10 being all others
	Errors            [13]int
	Did               [7]int // by kinds of intervals
	Told              [5]int // by kinds of events
	Slow, Over, Again int    // Runs at slower levels, jobs cut for a semaphore, devices away again
	Stayed            int    // levels chosen that were the one ahead
}

// add counts one step.
func (c *counts) add(x api.Step, e api.Errno) {
	kind := min(max(x.Kind, 0), 10)
	c.Errors[e]++
	if e == api.OK {
		c.Taken[kind]++
	} else {
		c.Refused[kind]++
	}
}

// addAll counts what there is behind a script.
func (c *counts) addAll(k *plain) {
	switches := 0
	for _, i := range k.trace {
		c.Did[i.Kind]++
		if i.Kind == api.Run && i.Arg > 0 {
			c.Slow++
		}
		if i.Kind == api.Switch {
			switches++
		}
	}
	for _, e := range k.events {
		c.Told[e.Kind]++
	}
	c.Over += k.over
	c.Again += k.again
	c.Stayed += k.chosen - switches
}

// enough holds that each thing was there often enough.
func (c *counts) enough(t *testing.T) {
	t.Helper()
	least := slices.Min(slices.Concat(c.Taken[1:10], c.Did[1:], c.Told[1:], []int{c.Slow, c.Over, c.Again, c.Stayed}))
	for e, n := range c.Errors {
		if e := api.Errno(e); e != api.ErrTable && e != api.ErrText {
			least = min(least, n)
		}
	}
	for kind, n := range c.Refused {
		if kind != api.StepTick { // just odd ones are refused
			least = min(least, n)
		}
	}
	if least < 20 {
		t.Errorf("too few of a kind: %+v", c)
	}
}

// P20.1 to P20.10, P1: many drawn scripts, on many drawn machines, against the
// plain kernel, all that there is behind each step.
func TestManyDrawn(t *testing.T) {
	for odd, scripts := range map[int]int{5: 120, 50: 120} {
		d, c := drawer{rand.New(rand.NewPCG(20, uint64(odd))), odd}, counts{}
		for range scripts {
			b := begin(t, d.machine(t, 500))
			d.script(b.p, 200, func(x api.Step) {
				_, e := b.do(t, x)
				c.add(x, e)
				promised(t, b)
			})
			c.addAll(b.p)
		}
		c.enough(t)
	}
}

// P2, P4, P5: scripts in which tasks ask for almost all that there is, and
// jobs come as early as they may.
func TestManyLoaded(t *testing.T) {
	d, full := drawer{rand.New(rand.NewPCG(20, 3)), 1}, 0
	for range 150 {
		b := begin(t, d.machine(t, 900))
		do := func(x api.Step) {
			n, e := b.k.Do(x)
			if wantN, wantE := b.p.do(x); n != wantN || e != wantE {
				t.Fatalf("Do(%+v) is %d, %d, not %d, %d", x, n, e, wantN, wantE)
			}
		}
		for range 12 {
			x := d.task(b.p.machine)
			x.Period, x.Cycles, x.Sec = d.of(4, 60), d.of(1, 12), nil
			for range b.p.machine.Sems {
				x.Sec = append(x.Sec, d.of(0, min(3, x.Cycles)))
			}
			do(admits(x))
		}
		d.script(b.p, 400, func(x api.Step) {
			do(x)
			for n, s := range b.p.slots {
				if s.task.Period > 0 && len(s.coming) == 0 && d.chance(25) {
					do(arrives(n, max(0, s.next-b.p.now), d.of(1, s.task.Cycles+1)))
				}
			}
		})
		b.same(t, "a script")
		promised(t, b)
		if there, _ := b.p.there(); admit.Load(b.p.machine, there, 0) > api.One/10*9 {
			full++
		}
	}
	if full < 50 {
		t.Errorf("no more than %d scripts ask for almost all", full)
	}
}

// R5: the same steps, taken again from the beginning, have the same answers,
// also while another kernel takes steps between them.
func TestManyAgain(t *testing.T) {
	d := drawer{rand.New(rand.NewPCG(20, 4)), 5}
	for range 25 {
		m := d.machine(t, 400)
		one, other, between := begin(t, m), begin(t, m), begin(t, d.machine(t, 400))
		var steps []api.Step
		d.script(one.p, 120, func(x api.Step) {
			steps = append(steps, x)
			one.do(t, x)
		})
		for _, x := range steps {
			between.do(t, d.step(between.p))
			other.do(t, x)
		}
		if got, want := seen(t, other.k), seen(t, one.k); !reflect.DeepEqual(got, want) {
			t.Fatalf("again there is\n%+v\nnot\n%+v", got, want)
		}
	}
}

// every calls do with each list of so many of these.
func every(list []api.Step, count int, do func([]api.Step)) {
	way := make([]api.Step, count)
	var from func(int)
	from = func(n int) {
		if n == count {
			do(way)
			return
		}
		for _, x := range list {
			way[n] = x
			from(n + 1)
		}
	}
	from(0)
}

// P20.2 to P20.10: every way to go four steps from each of two beginnings.
func TestEverySmallWay(t *testing.T) {
	m := api.Platform{
		Levels: []api.Level{{P: 1, E: 9}, {P: 2, E: 4}}, Crit: 1, Switch: 1, Sems: 1, Horizon: 9,
		Sleeps: []api.Sleep{{Enter: 1, Exit: 1, Even: 2}}, Devices: []api.Device{{On: 1, Down: 1, Up: 1, Even: 2}},
	}
	x := api.Task{Period: 9, Cycles: 2, Sec: []int{1}, Devs: []int{0}}
	list := []api.Step{
		admits(x), removes(0), arrives(0, 0, 2), arrives(0, 2, 9), ticks(1), ticks(4),
		takesSem(0), givesSem(0), policy(api.Lazy, 1), sets(0, 1, 1), cancels(0),
	}
	for _, first := range [][]api.Step{nil, {admits(x), arrives(0, 0, 2), ticks(1)}} {
		every(list, 4, func(way []api.Step) {
			k, p := begun(t, m)
			for _, x := range append(first, way...) {
				n, e := k.Do(x)
				if wantN, wantE := p.do(x); n != wantN || e != wantE {
					t.Fatalf("in %v Do(%+v) is %d, %d, not %d, %d", way, x, n, e, wantN, wantE)
				}
			}
			if got, want := ask(k).copy(), p.view(); !reflect.DeepEqual(got, want) {
				t.Fatalf("behind %v there is\n%+v\nnot\n%+v", way, got, want)
			}
		})
	}
}

// begun is a new kernel, and what it has to be.
func begun(t *testing.T, m api.Platform) (*Kernel, *plain) {
	t.Helper()
	k, e := New(m)
	if e != api.OK {
		t.Fatal("a machine may not be", e)
	}
	return k, newPlain(m)
}

// promised holds what P2, P4 and P5 say against what there is.
func promised(t *testing.T, b *pair) {
	t.Helper()
	v := seen(t, b.k)
	keepsDeadlines(t, v)
	costsLittle(t, b.p.machine, v)
	stays(t, b.p.machine, v)
}

// keepsDeadlines is P2: what was released has ended by its deadline, or may do
// so yet, and ends once.
func keepsDeadlines(t *testing.T, v view) {
	t.Helper()
	open := map[int]int{} // by tasks the deadline
	for _, e := range v.Events {
		due, isOpen := open[e.Task]
		switch e.Kind {
		case api.Released:
			if isOpen {
				t.Fatalf("task %d has two jobs at %d", e.Task, e.At)
			}
			open[e.Task] = e.Due
		case api.Finished, api.Cut:
			if !isOpen || due != e.Due || e.At > due {
				t.Fatalf("a job ends by no promise: %+v", e)
			}
			delete(open, e.Task)
		}
	}
	for _, j := range v.Jobs {
		if due, isOpen := open[j.Task]; !isOpen || due != j.Deadline || v.Now >= due {
			t.Fatalf("at %d a job is there yet: %+v", v.Now, j)
		}
		delete(open, j.Task)
	}
	if len(open) > 0 {
		t.Fatalf("jobs are nowhere: %v", open)
	}
}

// costsLittle is P4.
func costsLittle(t *testing.T, p api.Platform, v view) {
	t.Helper()
	from, cost, cycles, switches := 0, 0, 0, 0
	for _, i := range v.Trace {
		if i.From != from || i.Len < 0 {
			t.Fatalf("an interval does not begin where the one ahead ends: %+v", v.Trace)
		}
		from += i.Len
		switch i.Kind {
		case api.Run:
			cost += i.Cycles * p.Levels[i.Arg].E
			cycles += i.Cycles
		case api.Idle:
			cost += i.Len * p.Idle
		case api.Switch:
			cost += p.SwitchE
			switches++
		case api.Enter:
			cost += p.Sleeps[i.Arg].EnterE
		case api.Asleep:
			cost += i.Len * p.Sleeps[i.Arg].Power
		case api.Exit:
			cost += p.Sleeps[i.Arg].ExitE
		default:
			t.Fatalf("an interval of no kind: %+v", i)
		}
	}
	if m := v.Meter; from != v.Now || cost != m.Run+m.Idle+m.Switch+m.Sleep {
		t.Fatalf("at %d the trace ends at %d, and its intervals cost %d: %+v", v.Now, from, cost, m)
	}
	bound := cycles*p.Levels[0].E + max(0, v.Now-cycles*p.Levels[0].P)*p.Idle + switches*p.SwitchE
	if !v.Asleep && cost > bound {
		t.Fatalf("at %d it has cost %d, more than %d: %+v", v.Now, cost, bound, v.Trace)
	}
	jobs := 0
	for _, e := range v.Events {
		if e.Kind != api.Expired {
			jobs++
		}
	}
	if switches > jobs {
		t.Fatalf("%d switches, %d jobs that came or ended", switches, jobs)
	}
}

// stays is what P5 says of how long sleep, and devices, are away.
func stays(t *testing.T, p api.Platform, v view) {
	t.Helper()
	began := 0
	for _, i := range v.Trace {
		switch i.Kind {
		case api.Enter:
			began = i.From
		case api.Exit:
			if stay := i.From + i.Len - began; stay < p.Sleeps[i.Arg].Even {
				t.Fatalf("asleep from %d for %d", began, stay)
			}
		}
	}
	for i, n := range numbers {
		if x := v.Devices[i]; x != (dev.Dev{}) && x.Until-x.From < p.Devices[n].Even {
			t.Fatalf("a device is away too shortly: %+v", x)
		}
	}
}

// who is the task whose job has to run, as P3 says it.
func who(v view) (int, bool) {
	if len(v.Jobs) == 0 {
		return 0, false
	}
	first := v.Jobs[0]
	for _, j := range v.Jobs {
		if j.Deadline < first.Deadline || j.Deadline == first.Deadline && j.Task < first.Task {
			first = j
		}
	}
	ceiling := api.Never
	for _, h := range v.Held {
		for _, x := range v.Tasks {
			if uses(x, h.Sem) {
				ceiling = min(ceiling, x.Period)
			}
		}
	}
	if first.Started || v.Tasks[first.Task].Period < ceiling || len(v.Stack) == 0 {
		return first.Task, true
	}
	return v.Stack[len(v.Stack)-1], true
}

// runsRightly holds what P3 and P5 say against what was done from one moment,
// at which there was this, to another.
func runsRightly(t *testing.T, p api.Platform, was, is view) {
	t.Helper()
	n, ok := who(was)
	for _, h := range was.Held {
		if ok && uses(was.Tasks[n], h.Sem) && h.Task != n {
			t.Fatalf("at %d task %d cannot take what %d holds", was.Now, n, h.Task)
		}
		if h.Task == n && h.Left <= 0 {
			return // it is cut ahead of anything else
		}
	}
	// An Exit of no quanta takes no time: the CPU is there at that moment.
	isOut := func(i api.Interval) bool { return i.Kind == api.Exit && i.From == was.Now && i.Len == 0 }
	asleep := was.Asleep && !slices.ContainsFunc(is.Trace, isOut)
	for _, i := range is.Trace {
		if i.From+i.Len <= was.Now || i.From >= is.Now {
			continue
		}
		switch {
		case asleep && (i.Kind == api.Run || i.Kind == api.Switch || i.Kind == api.Idle):
			t.Fatalf("at %d the CPU is asleep, and does %+v", was.Now, i)
		case !asleep && ok && i.From <= was.Now && i.Kind != api.Switch && (i.Kind != api.Run || i.Task != n):
			t.Fatalf("at %d task %d is to run, but there is %+v", was.Now, n, i)
		case !asleep && !ok && i.From <= was.Now && (i.Kind == api.Run || i.Kind == api.Switch):
			t.Fatalf("at %d nobody is to run, but there is %+v", was.Now, i)
		}
		if i.Kind != api.Run {
			continue
		}
		for _, d := range was.Tasks[i.Task].Devs {
			at := slices.Index(numbers, d)
			for m := max(i.From, was.Now); m < min(i.From+i.Len, is.Now); m++ {
				if dev.State(p.Devices[d], was.Devices[at], m) != dev.On || dev.State(p.Devices[d], is.Devices[at], m) != dev.On {
					t.Fatalf("at %d task %d runs, but device %d is not on", m, i.Task, d)
				}
			}
		}
	}
}

// P3, P5, P6: drawn scripts, time by all its quanta at once and quantum by
// quantum: they come to the same, and at each moment who is to run does so.
func TestManyByQuanta(t *testing.T) {
	d, quanta := drawer{rand.New(rand.NewPCG(20, 7)), 3}, 0
	for range 60 {
		m := d.machine(t, 400)
		b := begin(t, m)
		other, _ := New(m)
		d.script(b.p, 150, func(x api.Step) {
			_, e := b.do(t, x)
			if x.Kind != api.StepTick || x.A == 0 || e != api.OK {
				if _, again := other.Do(x); again != e {
					t.Fatalf("Do(%+v) is %d, and %d, where time went by quanta", x, e, again)
				}
			} else {
				for other.Now() < b.k.Now() {
					was := seen(t, other)
					if _, e := other.Do(ticks(1)); e != api.OK {
						t.Fatal("a quantum is refused", e)
					}
					runsRightly(t, m, was, seen(t, other))
					quanta++
				}
			}
			if one, two := seen(t, b.k), seen(t, other); !reflect.DeepEqual(one, two) {
				t.Fatalf("behind %+v there is\n%+v\nand by quanta\n%+v", x, one, two)
			}
		})
	}
	if quanta < 5000 {
		t.Errorf("no more than %d quanta", quanta)
	}
}
