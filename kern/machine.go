package kern

import (
	"slices"

	"dormouse/admit"
	"dormouse/api"
	"dormouse/dev"
	"dormouse/govern"
	"dormouse/job"
	"dormouse/nap"
	"dormouse/pick"
	"dormouse/plan"
	"dormouse/rest"
	"dormouse/slack"
)

// boundary takes what is due by now, and lets devices go away.
func (k *Kernel) boundary() {
	k.takeDue()
	k.sendAway()
}

// takeDue makes the jobs ready that come by now, and tells which timers are
// due.
func (k *Kernel) takeDue() {
jobs:
	for {
		number, at, cycles, ok := k.latched.Next(k.now)
		if !ok {
			break jobs
		}
		k.release(number, at, cycles)
	}
timers:
	for {
		timer, at, ok := k.timers.Due(k.now)
		if !ok {
			break timers
		}
		k.tell(api.Event{Kind: api.Expired, Task: timer, At: k.now, Due: at})
	}
}

// release makes a job ready that was latched for that moment.
func (k *Kernel) release(number, at, cycles int) {
	j := job.New(number, k.tasks[number], at, cycles)
	k.ready.Put(j)
	k.next[number], k.used[number] = j.Deadline, k.tasks[number].Cycles
	k.tell(api.Event{Kind: api.Released, Task: number, At: at, Due: j.Deadline})
}

// sendAway lets each device go that nobody needs for long enough.
func (k *Kernel) sendAway() {
	list := k.ready.List()
	for d, x := range k.machine.Devices {
		last := k.devices[d].last
		until := plan.Until(k.tasks[:], k.next[:], list, d, k.now)
		if away, goes := dev.Away(x, last, k.now, until); goes {
			k.devices[d].spent += dev.Energy(x, last, k.now)
			k.devices[d].last = away
		}
	}
}

// tell keeps an event.
func (k *Kernel) tell(e api.Event) {
	k.events = append(k.events, e)
}

// spend lets the CPU do an interval from now on.
func (k *Kernel) spend(i api.Interval) {
	i.From = k.now
	k.trace.Add(i)
	k.meter = k.meter.Add(k.machine, i)
	k.now += i.Len
}

// move is a step of the machine.
func (k *Kernel) move() {
	if k.asleep {
		k.sleepOn()
		return
	}
	number, ok := k.choose()
	if !ok {
		k.nobody()
		return
	}
	j, _ := k.ready.Get(number)
	if k.locks.Over(number) {
		k.end(j, api.Cut)
		return
	}
	if !j.Started || k.mark {
		j = k.start(j)
		if k.switches(j) {
			return
		}
	}
	k.run(j)
}

// choose is the task whose job is to run, if there is one.
func (k *Kernel) choose() (int, bool) {
	return pick.Choose(k.tasks[:], k.ready.List(), k.stack, k.locks.Ceiling(k.tasks[:]))
}

// running is the task whose job runs: that which is to run, if it is Started.
func (k *Kernel) running() (int, bool) {
	if k.asleep {
		return 0, false
	}
	number, ok := k.choose()
	if !ok {
		return 0, false
	}
	j, _ := k.ready.Get(number)
	return number, j.Started
}

// sleepOn lets the CPU sleep for one quantum more, or go out of its sleep, if
// it is time to.
func (k *Kernel) sleepOn() {
	exit := k.machine.Sleeps[k.state].Exit
	if k.now < k.wake-exit {
		k.spend(api.Interval{Kind: api.Asleep, Len: 1, Arg: k.state})
		return
	}
	k.asleep = false
	k.spend(api.Interval{Kind: api.Exit, Len: exit, Arg: k.state})
}

// nobody is what the CPU does without a job: it goes to sleep, or idles.
func (k *Kernel) nobody() {
	k.mark = false
	if k.maySleep && k.fallsAsleep() {
		k.spend(api.Interval{Kind: api.Enter, Len: k.machine.Sleeps[k.state].Enter, Arg: k.state})
		return
	}
	k.spend(api.Interval{Kind: api.Idle, Len: 1})
}

// fallsAsleep makes the CPU sleep till it has to be there again, if there is a
// state that is worth it.
func (k *Kernel) fallsAsleep() bool {
	wake := rest.Ready(k.machine, k.tasks[:], k.next[:], k.now)
	state, ok := nap.Best(k.machine, wake-k.now)
	if ok {
		k.asleep, k.state, k.wake = true, state, wake
	}
	return ok
}

// start makes j Started, if it was not. It tells it as it is then.
func (k *Kernel) start(j api.Job) api.Job {
	if !j.Started {
		j.Started = true
		k.ready.Put(j)
		k.stack = append(k.stack, j.Task)
	}
	return j
}

// switches chooses the level for j, and tells whether that is another one. The
// CPU goes there, if it is.
func (k *Kernel) switches(j api.Job) bool {
	k.mark = false
	level := k.fit(j)
	if level == k.level {
		return false
	}
	k.level = level
	k.spend(api.Interval{Kind: api.Switch, Len: k.machine.Switch, Arg: level})
	return true
}

// fit is the level for j, as the policy and the time that is left have it.
func (k *Kernel) fit(j api.Job) int {
	left := slack.Least(k.machine, k.tasks[:], k.next[:], k.ready.List(), k.locks.List(), k.now, j.Deadline)
	return govern.Choose(k.machine, k.policy, k.static(), j.Left, left, k.level)
}

// static is the level that would do for all tasks; where the policy is Saving,
// if each of them asked for no more than its last job had.
func (k *Kernel) static() int {
	tasks, used := k.present()
	if k.policy == api.Saving {
		return admit.Spare(k.machine, tasks, used)
	}
	return admit.Slowest(k.machine, tasks)
}

// run lets j have one cycle.
func (k *Kernel) run(j api.Job) {
	k.spend(api.Interval{Kind: api.Run, Len: k.machine.Levels[k.level].P, Arg: k.level, Task: j.Task, Cycles: 1})
	k.locks.Spend(j.Task)
	j, how := job.Step(j)
	k.ready.Put(j)
	if how != 0 {
		k.end(j, how)
	}
}

// end is what becomes of a job that has ended so: of its task nothing is left
// but the cycles that it had.
func (k *Kernel) end(j api.Job, how int) {
	k.ready.Drop(j.Task)
	k.stack = slices.DeleteFunc(k.stack, func(number int) bool { return number == j.Task })
	k.locks.Free(j.Task)
	k.used[j.Task] = k.tasks[j.Task].Cycles - j.Left
	k.mark = true
	k.tell(api.Event{Kind: how, Task: j.Task, At: k.now, Due: j.Deadline})
}
