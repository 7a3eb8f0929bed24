package kern

import (
	"maps"
	"slices"

	"dormouse/admit"
	"dormouse/api"
	"dormouse/dev"
	"dormouse/govern"
	"dormouse/locks"
	"dormouse/meter"
	"dormouse/nap"
	"dormouse/plan"
	"dormouse/rest"
	"dormouse/slack"
	"dormouse/task"
)

// plain is a kernel as the chapter has it, sentence by sentence: what it has
// stands in lists in no order, which are looked through anew each time.
type plain struct {
	machine  api.Platform
	now      int
	level    int
	policy   int
	maySleep bool
	slots    [api.MaxTasks]slot
	stack    []int
	held     []locks.Held
	timers   map[int]clock
	devices  []dev.Dev
	spent    []int
	asleep   bool
	state    int
	wake     int
	mark     bool
	trace    []api.Interval
	meter    meter.Meter
	events   []api.Event
	// How often the level was chosen, a job was cut as it held a semaphore too
	// long, and a device went away that had been away.
	chosen, over, again int
}

// slot is all that a task has.
type slot struct {
	task       api.Task
	next, used int
	coming     []coming // one at most
	jobs       []api.Job
}

// coming is a job that is latched.
type coming struct{ at, cycles int }

// clock is a timer.
type clock struct{ at, every int }

// newPlain is a kernel of a machine that may be, at moment 0.
func newPlain(p api.Platform) *plain {
	return &plain{machine: p, timers: map[int]clock{}, devices: make([]dev.Dev, len(p.Devices)), spent: make([]int, len(p.Devices))}
}

// fault is an error, and whether it applies.
type fault struct {
	applies bool
	e       api.Errno
}

// firstOf is the first error that applies.
func firstOf(list ...fault) api.Errno {
	for _, x := range list {
		if x.applies {
			return x.e
		}
	}
	return api.OK
}

// do is P20.2.
func (k *plain) do(x api.Step) (int, api.Errno) {
	if k.now >= k.machine.Horizon {
		return 0, api.ErrHorizon
	}
	steps := map[int]func(api.Step) (int, api.Errno){
		api.StepAdmit: k.admit, api.StepRemove: k.remove, api.StepArrive: k.arrive,
		api.StepTick: k.tick, api.StepLock: k.lock, api.StepUnlock: k.unlock,
		api.StepPolicy: k.setPolicy, api.StepTimer: k.setTimer, api.StepCancel: k.cancel,
	}
	step, ok := steps[x.Kind]
	if !ok {
		return 0, api.ErrArg
	}
	n, e := step(x)
	if e != api.OK {
		return 0, e
	}
	k.boundary()
	return n, api.OK
}

// list are all tasks by their numbers, and their nexts.
func (k *plain) list() (tasks []api.Task, nexts []int) {
	for _, s := range k.slots {
		tasks, nexts = append(tasks, s.task), append(nexts, s.next)
	}
	return tasks, nexts
}

// there are the tasks that there are, and their numbers used.
func (k *plain) there() (tasks []api.Task, useds []int) {
	for _, s := range k.slots {
		if s.task.Period > 0 {
			tasks, useds = append(tasks, s.task), append(useds, s.used)
		}
	}
	return tasks, useds
}

// has says whether there is a task of that number.
func (k *plain) has(n int) bool { return n >= 0 && n < api.MaxTasks && k.slots[n].task.Period > 0 }

// between says whether n is from a to b.
func between(n, a, b int) bool { return a <= n && n <= b }

// admit is P20.3.
func (k *plain) admit(x api.Step) (int, api.Errno) {
	others, _ := k.there()
	e := firstOf(
		fault{task.Check(k.machine, x.Task) != api.OK, api.ErrTask},
		fault{len(k.held) > 0, api.ErrBusy},
		fault{len(others) == api.MaxTasks, api.ErrFull},
	)
	if e == api.OK && !admit.Fits(k.machine, append(slices.Clone(others), x.Task)) {
		e = api.ErrLoad
	}
	if e != api.OK {
		return 0, e
	}
	moments := []int{k.now}
	for _, j := range k.ready() {
		moments = append(moments, j.Deadline)
	}
	if k.asleep {
		greatest := 0
		for _, o := range others {
			if o.Period > greatest {
				greatest = o.Period
			}
		}
		moments = append(moments, k.wake+greatest)
	}
	for _, d := range x.Task.Devs {
		k.devices[d] = dev.Call(k.machine.Devices[d], k.devices[d], k.now)
		if dev.State(k.machine.Devices[d], k.devices[d], k.now) != dev.On {
			moments = append(moments, k.devices[d].Until)
		}
	}
	n := 0
	for k.has(n) {
		n++
	}
	k.slots[n] = slot{task: copyTask(x.Task), next: slices.Max(moments), used: x.Task.Cycles}
	return n, api.OK
}

// remove is P20.4.
func (k *plain) remove(x api.Step) (int, api.Errno) {
	if !k.has(x.A) {
		return 0, api.ErrNone
	}
	if len(k.slots[x.A].jobs) > 0 || len(k.slots[x.A].coming) > 0 || len(k.held) > 0 {
		return 0, api.ErrBusy
	}
	k.slots[x.A] = slot{}
	return 0, api.OK
}

// arrive is P20.5.
func (k *plain) arrive(x api.Step) (int, api.Errno) {
	if !k.has(x.A) {
		return 0, api.ErrNone
	}
	s := &k.slots[x.A]
	e := firstOf(
		fault{!between(x.B, 0, api.MaxHorizon) || !between(x.C, 1, api.MaxHorizon), api.ErrArg},
		fault{len(s.coming) > 0, api.ErrBusy},
		fault{k.now+x.B < s.next, api.ErrEarly},
	)
	if e == api.OK {
		s.coming, s.next = []coming{{k.now + x.B, x.C}}, k.now+x.B
	}
	return 0, e
}

// tick is P20.6.
func (k *plain) tick(x api.Step) (int, api.Errno) {
	if !between(x.A, 0, api.MaxHorizon) {
		return 0, api.ErrArg
	}
	for end := k.now + x.A; k.now < end && k.now < k.machine.Horizon; {
		k.move()
		k.boundary()
	}
	return 0, api.OK
}

// runs is the task that runs, for the steps of semaphores.
func (k *plain) runs() (int, bool) {
	n, ok := k.choose()
	return n, ok && !k.asleep && k.slots[n].jobs[0].Started
}

// uses says whether a task uses a semaphore.
func uses(t api.Task, s int) bool { return s >= 0 && s < len(t.Sec) && t.Sec[s] > 0 }

// lock is P20.7.
func (k *plain) lock(x api.Step) (int, api.Errno) {
	n, ok := k.runs()
	if !ok {
		return 0, api.ErrIdle
	}
	isIt := func(h locks.Held) bool { return h.Sem == x.A }
	if !uses(k.slots[n].task, x.A) || slices.ContainsFunc(k.held, isIt) {
		return 0, api.ErrLock
	}
	k.held = append(k.held, locks.Held{Task: n, Sem: x.A, Left: k.slots[n].task.Sec[x.A]})
	return 0, api.OK
}

// unlock is P20.7.
func (k *plain) unlock(x api.Step) (int, api.Errno) {
	n, ok := k.runs()
	if !ok {
		return 0, api.ErrIdle
	}
	last := -1
	for i, h := range k.held {
		if h.Task == n {
			last = i
		}
	}
	if !uses(k.slots[n].task, x.A) || last < 0 || k.held[last].Sem != x.A {
		return 0, api.ErrLock
	}
	k.held = slices.Delete(k.held, last, last+1)
	return 0, api.OK
}

// setPolicy is P20.8.
func (k *plain) setPolicy(x api.Step) (int, api.Errno) {
	if !slices.Contains([]int{api.Full, api.Static, api.Lazy, api.Saving}, x.A) || x.B != 0 && x.B != 1 {
		return 0, api.ErrArg
	}
	k.policy, k.maySleep = x.A, x.B == 1
	return 0, api.OK
}

// setTimer is P20.9.
func (k *plain) setTimer(x api.Step) (int, api.Errno) {
	if !between(x.A, 0, api.MaxTimers-1) || !between(x.B, 0, api.MaxHorizon) || !between(x.C, 0, api.MaxHorizon) {
		return 0, api.ErrArg
	}
	k.timers[x.A] = clock{k.now + x.B, x.C}
	return 0, api.OK
}

// cancel is P20.9.
func (k *plain) cancel(x api.Step) (int, api.Errno) {
	if _, ok := k.timers[x.A]; !ok {
		return 0, api.ErrNone
	}
	delete(k.timers, x.A)
	return 0, api.OK
}

// boundary is the chapter's word.
func (k *plain) boundary() {
	for n, ok := k.comes(); ok; n, ok = k.comes() {
		s := &k.slots[n]
		c := s.coming[0]
		j := api.Job{Task: n, Release: c.at, Deadline: c.at + s.task.Period, Left: s.task.Cycles, Real: c.cycles}
		s.coming, s.jobs, s.next, s.used = nil, []api.Job{j}, j.Deadline, s.task.Cycles
		k.events = append(k.events, api.Event{Kind: api.Released, Task: n, At: c.at, Due: j.Deadline})
	}
	for n, ok := k.due(); ok; n, ok = k.due() {
		c := k.timers[n]
		k.events = append(k.events, api.Event{Kind: api.Expired, Task: n, At: k.now, Due: c.at})
		if c.every > 0 {
			k.timers[n] = clock{c.at + c.every, c.every}
		} else {
			delete(k.timers, n)
		}
	}
	tasks, nexts := k.list()
	for d := range k.devices {
		until := plan.Until(tasks, nexts, k.ready(), d, k.now)
		x, ok := dev.Away(k.machine.Devices[d], k.devices[d], k.now, until)
		if ok {
			if k.devices[d] != (dev.Dev{}) {
				k.again++
			}
			k.spent[d] += dev.Energy(k.machine.Devices[d], k.devices[d], k.now)
			k.devices[d] = x
		}
	}
}

// comes is the task of which a job comes next, if one does by now.
func (k *plain) comes() (int, bool) {
	first := -1
	for n, s := range k.slots {
		if len(s.coming) > 0 && s.coming[0].at <= k.now && (first < 0 || s.coming[0].at < k.slots[first].coming[0].at) {
			first = n
		}
	}
	return first, first >= 0
}

// due is the timer that is due first, if one is by now.
func (k *plain) due() (int, bool) {
	first := -1
	for _, n := range slices.Sorted(maps.Keys(k.timers)) {
		if k.timers[n].at <= k.now && (first < 0 || k.timers[n].at < k.timers[first].at) {
			first = n
		}
	}
	return first, first >= 0
}

// ready are the jobs that are ready, the most urgent one first.
func (k *plain) ready() []api.Job {
	var list []api.Job
	for _, s := range k.slots {
		list = append(list, s.jobs...)
	}
	// Of one deadline the least task stays first: it was first.
	slices.SortStableFunc(list, func(a, b api.Job) int { return a.Deadline - b.Deadline })
	return list
}

// ceiling is the least Period of those that use what is held.
func (k *plain) ceiling() int {
	least := api.Never
	for _, h := range k.held {
		for _, s := range k.slots {
			if uses(s.task, h.Sem) && s.task.Period < least {
				least = s.task.Period
			}
		}
	}
	return least
}

// choose is P14.1, and P3's second sentence.
func (k *plain) choose() (int, bool) {
	list := k.ready()
	if len(list) == 0 {
		return 0, false
	}
	first := list[0]
	if first.Started || k.slots[first.Task].task.Period < k.ceiling() || len(k.stack) == 0 {
		return first.Task, true
	}
	return k.stack[len(k.stack)-1], true
}

// does does an interval.
func (k *plain) does(i api.Interval) {
	i.From = k.now
	k.now += i.Len
	var lasting = i.Kind == api.Run || i.Kind == api.Idle || i.Kind == api.Asleep
	if n := len(k.trace); n > 0 && lasting && k.trace[n-1].Kind == i.Kind && k.trace[n-1].Arg == i.Arg && k.trace[n-1].Task == i.Task {
		k.trace[n-1].Len += i.Len
		k.trace[n-1].Cycles += i.Cycles
	} else {
		k.trace = append(k.trace, i)
	}
	switch i.Kind {
	case api.Run:
		k.meter.Run += i.Cycles * k.machine.Levels[i.Arg].E
	case api.Idle:
		k.meter.Idle += i.Len * k.machine.Idle
	case api.Switch:
		k.meter.Switch += k.machine.SwitchE
	case api.Enter:
		k.meter.Sleep += k.machine.Sleeps[i.Arg].EnterE
	case api.Asleep:
		k.meter.Sleep += i.Len * k.machine.Sleeps[i.Arg].Power
	case api.Exit:
		k.meter.Sleep += k.machine.Sleeps[i.Arg].ExitE
	}
}

// move is a step of the machine.
func (k *plain) move() {
	if k.asleep {
		exit := k.machine.Sleeps[k.state].Exit
		if k.now >= k.wake-exit {
			k.asleep = false
			k.does(api.Interval{Kind: api.Exit, Len: exit, Arg: k.state})
		} else {
			k.does(api.Interval{Kind: api.Asleep, Len: 1, Arg: k.state})
		}
		return
	}
	n, ok := k.choose()
	if !ok {
		k.mark = false
		tasks, nexts := k.list()
		wake := rest.Ready(k.machine, tasks, nexts, k.now)
		state, ok := nap.Best(k.machine, wake-k.now)
		if k.maySleep && ok {
			k.asleep, k.state, k.wake = true, state, wake
			k.does(api.Interval{Kind: api.Enter, Len: k.machine.Sleeps[state].Enter, Arg: state})
		} else {
			k.does(api.Interval{Kind: api.Idle, Len: 1})
		}
		return
	}
	for _, h := range k.held {
		if h.Task == n && h.Left <= 0 {
			k.over++
			k.end(n, api.Cut)
			return
		}
	}
	j := &k.slots[n].jobs[0]
	if !j.Started || k.mark {
		was := k.level
		k.chooseLevel(n)
		if k.level != was {
			k.does(api.Interval{Kind: api.Switch, Len: k.machine.Switch, Arg: k.level})
			return
		}
	}
	k.does(api.Interval{Kind: api.Run, Len: k.machine.Levels[k.level].P, Arg: k.level, Task: n, Cycles: 1})
	for i := range k.held {
		if k.held[i].Task == n {
			k.held[i].Left--
		}
	}
	j.Left, j.Real = j.Left-1, j.Real-1
	if j.Real <= 0 {
		k.end(n, api.Finished)
	} else if j.Left <= 0 {
		k.end(n, api.Cut)
	}
}

// chooseLevel is the chapter's word.
func (k *plain) chooseLevel(n int) {
	k.chosen++
	j := &k.slots[n].jobs[0]
	if !j.Started {
		j.Started = true
		k.stack = append(k.stack, n)
	}
	k.mark = false
	there, used := k.there()
	static := admit.Slowest(k.machine, there)
	if k.policy == api.Saving {
		static = admit.Spare(k.machine, there, used)
	}
	tasks, nexts := k.list()
	least := slack.Least(k.machine, tasks, nexts, k.ready(), k.held, k.now, j.Deadline)
	k.level = govern.Choose(k.machine, k.policy, static, j.Left, least, k.level)
}

// end is a job that ends.
func (k *plain) end(n, kind int) {
	s := &k.slots[n]
	j := s.jobs[0]
	s.jobs, s.used = nil, s.task.Cycles-j.Left
	k.stack = slices.DeleteFunc(k.stack, func(m int) bool { return m == n })
	k.held = slices.DeleteFunc(k.held, func(h locks.Held) bool { return h.Task == n })
	k.mark = true
	k.events = append(k.events, api.Event{Kind: kind, Task: n, At: k.now, Due: j.Deadline})
}

// view is all of P20.10.
func (k *plain) view() view {
	v := view{Now: k.now, Level: k.level, Asleep: k.asleep, Jobs: k.ready(), Stack: k.stack, Held: k.held, Trace: k.trace, Meter: k.meter, Events: k.events}
	v.Tasks, _ = k.list()
	for _, n := range numbers {
		next, used, away, spent := 0, 0, dev.Dev{}, 0
		if k.has(n) {
			next, used = k.slots[n].next, k.slots[n].used
		}
		if between(n, 0, len(k.devices)-1) {
			away, spent = k.devices[n], k.spent[n]+dev.Energy(k.machine.Devices[n], k.devices[n], k.now)
		}
		v.Next, v.Used = append(v.Next, next), append(v.Used, used)
		v.Devices, v.Spent = append(v.Devices, away), append(v.Spent, spent)
	}
	return v.copy()
}
