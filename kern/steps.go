package kern

import (
	"slices"

	"dormouse/admit"
	"dormouse/api"
	"dormouse/dev"
	"dormouse/task"
)

// take does what a step's Kind says. It changes nothing, if it tells an error.
func (k *Kernel) take(x api.Step) (int, api.Errno) {
	switch x.Kind {
	case api.StepAdmit:
		return k.admit(x.Task)
	case api.StepRemove:
		return 0, k.remove(x.A)
	case api.StepArrive:
		return 0, k.arrive(x.A, x.B, x.C)
	case api.StepTick:
		return 0, k.tick(x.A)
	case api.StepLock:
		return 0, k.lock(x.A)
	case api.StepUnlock:
		return 0, k.unlock(x.A)
	case api.StepPolicy:
		return 0, k.govern(x.A, x.B)
	case api.StepTimer:
		return 0, k.setTimer(x.A, x.B, x.C)
	case api.StepCancel:
		return 0, k.cancelTimer(x.A)
	}
	return 0, api.ErrArg
}

// admit lets t be a task from now on, if it fits with those that there are. It
// tells its number.
func (k *Kernel) admit(t api.Task) (int, api.Errno) {
	if fault := task.Check(k.machine, t); fault != api.OK {
		return 0, fault
	}
	if k.anyHeld() {
		return 0, api.ErrBusy
	}
	if !k.takePlace() {
		return 0, api.ErrFull
	}
	there, _ := k.present()
	if !admit.Fits(k.machine, append(there, t)) {
		k.givePlace()
		return 0, api.ErrLoad
	}
	number := slices.IndexFunc(k.tasks[:], isFree)
	k.callDevices(t)
	k.next[number], k.used[number] = k.firstNext(t), t.Cycles
	k.tasks[number] = task.Own(t)
	return number, api.OK
}

// takePlace takes a place for one more task, and tells whether there was one.
func (k *Kernel) takePlace() bool {
	select {
	case k.places <- struct{}{}:
		return true
	default:
		return false
	}
}

// givePlace gives back the place of one task.
func (k *Kernel) givePlace() {
	<-k.places
}

// isFree says whether a number that has t has no task.
func isFree(t api.Task) bool {
	return t.Period == 0
}

// present are the tasks that there are, and the cycles that the last job of
// each had.
func (k *Kernel) present() (tasks []api.Task, used []int) {
	for number, t := range k.tasks {
		if !isFree(t) {
			tasks, used = append(tasks, t), append(used, k.used[number])
		}
	}
	return tasks, used
}

// callDevices calls all devices that t needs.
func (k *Kernel) callDevices(t api.Task) {
	for d, x := range k.machine.Devices {
		if task.Needs(t, d) {
			k.devices[d].last = dev.Call(x, k.devices[d].last, k.now)
		}
	}
}

// firstNext is the moment ahead of which no job of t comes, if t becomes a
// task now: what was reckoned without it, sleep and slack, has to be over then.
func (k *Kernel) firstNext(t api.Task) int {
	next := max(k.now, k.ready.Last())
	if k.asleep {
		next = max(next, k.wake+k.greatestPeriod())
	}
	for d, x := range k.machine.Devices {
		last := k.devices[d].last
		if task.Needs(t, d) && dev.State(x, last, k.now) != dev.On {
			next = max(next, last.Until)
		}
	}
	return next
}

// greatestPeriod is that of the tasks that there are; 0 without one.
func (k *Kernel) greatestPeriod() int {
	greatest := 0
	for _, t := range k.tasks {
		greatest = max(greatest, t.Period)
	}
	return greatest
}

// remove lets a task go of which no job is there, or comes.
func (k *Kernel) remove(number int) api.Errno {
	if !k.isTask(number) {
		return api.ErrNone
	}
	if _, isReady := k.ready.Get(number); isReady || k.latched.Waits(number) || k.anyHeld() {
		return api.ErrBusy
	}
	k.tasks[number], k.next[number], k.used[number] = api.Task{}, 0, 0
	k.givePlace()
	return api.OK
}

// arrive latches a job of a task, which would take so many cycles, for some
// quanta after now.
func (k *Kernel) arrive(number, after, cycles int) api.Errno {
	switch {
	case !k.isTask(number):
		return api.ErrNone
	case !within(after, 0, api.MaxHorizon) || !within(cycles, 1, api.MaxHorizon):
		return api.ErrArg
	case k.latched.Waits(number):
		return api.ErrBusy
	case k.now+after < k.next[number]:
		return api.ErrEarly
	}
	k.next[number] = k.now + after
	k.latched.Put(number, k.now+after, cycles)
	return api.OK
}

// tick lets so many quanta go by, or as many as there are up to the Horizon.
// The last thing that is begun by then is done to its end.
func (k *Kernel) tick(quanta int) api.Errno {
	if !within(quanta, 0, api.MaxHorizon) {
		return api.ErrArg
	}
	end := min(k.now+quanta, k.machine.Horizon)
	for k.now < end {
		k.move()
		k.boundary()
	}
	return api.OK
}

// lock lets the task that runs take a semaphore.
func (k *Kernel) lock(sem int) api.Errno {
	number, runs := k.running()
	if !runs {
		return api.ErrIdle
	}
	t := k.tasks[number]
	if !task.Uses(t, sem) {
		return api.ErrLock
	}
	return k.locks.Take(number, sem, t.Sec[sem])
}

// unlock lets the task that runs give a semaphore.
func (k *Kernel) unlock(sem int) api.Errno {
	number, runs := k.running()
	if !runs {
		return api.ErrIdle
	}
	if !task.Uses(k.tasks[number], sem) {
		return api.ErrLock
	}
	return k.locks.Give(number, sem)
}

// govern sets the policy, and whether the CPU may sleep.
func (k *Kernel) govern(policy, sleep int) api.Errno {
	if !within(policy, api.Full, api.Saving) || !within(sleep, 0, 1) {
		return api.ErrArg
	}
	k.policy, k.maySleep = policy, sleep == 1
	return api.OK
}

// setTimer makes a timer due some quanta after now, and then each every
// quanta, if that is above 0.
func (k *Kernel) setTimer(timer, after, every int) api.Errno {
	if !within(timer, 0, api.MaxTimers-1) || !within(after, 0, api.MaxHorizon) || !within(every, 0, api.MaxHorizon) {
		return api.ErrArg
	}
	k.timers.Set(timer, k.now+after, every)
	return api.OK
}

// cancelTimer makes a timer due no more.
func (k *Kernel) cancelTimer(timer int) api.Errno {
	if !k.timers.Cancel(timer) {
		return api.ErrNone
	}
	return api.OK
}

// anyHeld says whether a semaphore is held.
func (k *Kernel) anyHeld() bool {
	return len(k.locks.List()) > 0
}

// within says whether n is from least to most.
func within(n, least, most int) bool {
	return n >= least && n <= most
}
