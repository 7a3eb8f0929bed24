package kern

import (
	"math"
	"reflect"
	"slices"
	"testing"

	"dormouse/api"
	"dormouse/dev"
	"dormouse/locks"
	"dormouse/meter"
)

// ends are numbers at both ends of an int, around 0, and around the limits.
var ends = []int{
	math.MinInt, math.MinInt + 1, -api.Never, -1 << 32, -api.MaxHorizon, -2, -1, 0, 1, 2,
	api.MaxHorizon, api.MaxHorizon + 1, 1 << 32, api.Never, math.MaxInt - 1, math.MaxInt,
}

// numbers are those of tasks and of devices, and such as none of them has.
var numbers = []int{math.MinInt, math.MinInt + 1, -2, -1, 0, 1, 2, 3, 4, 5, 6, 7, 64, 1 << 32, math.MaxInt - 1, math.MaxInt}

// view is all that there is of a kernel. Next, Used, Devices and Spent are by
// the places in numbers.
type view struct {
	Now, Level int
	Asleep     bool
	Jobs       []api.Job
	Stack      []int
	Held       []locks.Held
	Tasks      []api.Task
	Next, Used []int
	Devices    []dev.Dev
	Spent      []int
	Trace      []api.Interval
	Meter      meter.Meter
	Events     []api.Event
}

// ask asks a kernel all that it tells.
func ask(k *Kernel) view {
	v := view{Now: k.Now(), Level: k.Level(), Asleep: k.Asleep(), Jobs: k.Jobs(), Stack: k.Stack(), Held: k.Held(), Tasks: k.Tasks(), Trace: k.Trace(), Meter: k.Meter(), Events: k.Events()}
	for _, n := range numbers {
		v.Next, v.Used = append(v.Next, k.Next(n)), append(v.Used, k.Used(n))
		v.Devices, v.Spent = append(v.Devices, k.Device(n)), append(v.Spent, k.Spent(n))
	}
	return v
}

// copyList is a copy of a list; nil, if it is empty.
func copyList[T any](list []T) []T { return append([]T(nil), list...) }

// copyTask is a copy of t with lists of its own.
func copyTask(t api.Task) api.Task {
	t.Sec, t.Devs = copyList(t.Sec), copyList(t.Devs)
	return t
}

// copy is a view with lists of its own, empty ones being nil.
func (v view) copy() view {
	v.Jobs, v.Stack, v.Held, v.Tasks = copyList(v.Jobs), copyList(v.Stack), copyList(v.Held), copyList(v.Tasks)
	for i, x := range v.Tasks {
		v.Tasks[i] = copyTask(x)
	}
	v.Next, v.Used, v.Devices, v.Spent = copyList(v.Next), copyList(v.Used), copyList(v.Devices), copyList(v.Spent)
	v.Trace, v.Events = copyList(v.Trace), copyList(v.Events)
	return v
}

// fill writes x into all of a list, its spare room too.
func fill[T any](list []T, x T) {
	list = list[:cap(list)]
	for i := range list {
		list[i] = x
	}
}

// turn writes into all lists of a view.
func (v view) turn() {
	for _, x := range v.Tasks {
		fill(x.Sec, -77)
		fill(x.Devs, -78)
	}
	fill(v.Tasks, api.Task{Period: 1, Cycles: 1, Sec: []int{1}})
	fill(v.Jobs, api.Job{Task: 1, Release: -1, Deadline: -5, Left: -2, Real: -3, Started: true})
	fill(v.Stack, 3)
	fill(v.Held, locks.Held{Task: 4, Sem: 1, Left: -7})
	fill(v.Trace, api.Interval{Kind: 7, From: -1, Len: 99, Arg: 3, Task: 2, Cycles: 5})
	fill(v.Events, api.Event{Kind: 9, Task: 9, At: -9, Due: -9})
}

// seen is all that there is of a kernel, and so twice: to look changes
// nothing, and what was told is the caller's own.
func seen(t *testing.T, k *Kernel) view {
	t.Helper()
	first := ask(k)
	v := first.copy()
	first.turn()
	if again := ask(k).copy(); !reflect.DeepEqual(again, v) {
		t.Fatalf("asked again, there is\n%+v\nnot\n%+v", again, v)
	}
	return v
}

// roomy is a copy of a list, with spare room that is not empty.
func roomy[T any](list []T, filler T) []T {
	if list == nil {
		return nil
	}
	more := append(slices.Clone(list), filler, filler)
	return more[:len(list)]
}

// roomyMachine is a copy whose lists have spare room.
func roomyMachine(p api.Platform) api.Platform {
	p.Levels = roomy(p.Levels, api.Level{P: 200, E: 0})
	p.Sleeps = roomy(p.Sleeps, api.Sleep{Even: 1})
	p.Devices = roomy(p.Devices, api.Device{Even: 1})
	return p
}

// roomyTask is a copy whose lists have spare room.
func roomyTask(x api.Task) api.Task {
	x.Sec, x.Devs = roomy(x.Sec, 1), roomy(x.Devs, 2)
	return x
}

// wholeList is a copy of a list with its spare room.
func wholeList[T any](list []T) []T { return slices.Clone(list[:cap(list)]) }

// wholeMachine is a copy with the spare room of all lists.
func wholeMachine(p api.Platform) api.Platform {
	p.Levels, p.Sleeps, p.Devices = wholeList(p.Levels), wholeList(p.Sleeps), wholeList(p.Devices)
	return p
}

// pair is a kernel, and what it has to be.
type pair struct {
	k *Kernel
	p *plain
}

// begin is a new kernel of a machine that may be. The machine that it was
// handed is changed then.
func begin(t *testing.T, m api.Platform) *pair {
	t.Helper()
	handed := roomyMachine(m)
	was := wholeMachine(handed)
	k, e := New(handed)
	if e != api.OK || k == nil {
		t.Fatalf("New(%+v) is %v, %d", m, k, e)
	}
	if !reflect.DeepEqual(wholeMachine(handed), was) || len(handed.Levels) != len(m.Levels) {
		t.Fatalf("New has changed what it was handed: %+v", handed)
	}
	fill(handed.Levels, api.Level{P: 99, E: 99})
	fill(handed.Sleeps, api.Sleep{Power: 99, Even: 99})
	fill(handed.Devices, api.Device{On: 99, Off: 98, Even: 99})
	b := &pair{k, newPlain(m)}
	b.same(t, "New")
	return b
}

// same holds all that there is against what has to be.
func (b *pair) same(t *testing.T, name any) {
	t.Helper()
	got, want := seen(t, b.k), b.p.view()
	if reflect.DeepEqual(got, want) {
		return
	}
	g, w := reflect.ValueOf(got), reflect.ValueOf(want)
	for i := range g.NumField() {
		if !reflect.DeepEqual(g.Field(i).Interface(), w.Field(i).Interface()) {
			t.Errorf("%s is\n%+v\nnot\n%+v", g.Type().Field(i).Name, g.Field(i), w.Field(i))
		}
	}
	t.Fatalf("that is so behind %+v", name)
}

// do takes one step, and holds the answers and all that there is against what
// has to be. The lists that were handed in are changed then.
func (b *pair) do(t *testing.T, x api.Step) (int, api.Errno) {
	t.Helper()
	x.Task = roomyTask(x.Task)
	sec, devs, lens := wholeList(x.Task.Sec), wholeList(x.Task.Devs), [2]int{len(x.Task.Sec), len(x.Task.Devs)}
	wantN, wantE := b.p.do(x)
	n, e := b.k.Do(x)
	if n != wantN || e != wantE {
		t.Fatalf("at %d Do(%+v) is %d, %d, not %d, %d", b.p.now, x, n, e, wantN, wantE)
	}
	if !slices.Equal(wholeList(x.Task.Sec), sec) || !slices.Equal(wholeList(x.Task.Devs), devs) || lens != [2]int{len(x.Task.Sec), len(x.Task.Devs)} {
		t.Fatalf("Do has changed what it was handed: %+v", x)
	}
	fill(x.Task.Sec, 1)
	fill(x.Task.Devs, 1)
	b.same(t, x)
	return n, e
}

// takes takes steps, to all of which the answer is OK; the last one's number
// is told.
func (b *pair) takes(t *testing.T, list ...api.Step) int {
	t.Helper()
	last := 0
	for _, x := range list {
		n, e := b.do(t, x)
		if e != api.OK {
			t.Fatalf("at %d Do(%+v) is %d, not OK", b.k.Now(), x, e)
		}
		if x.Kind != api.StepAdmit && n != 0 {
			t.Fatalf("Do(%+v) has a number, %d", x, n)
		}
		last = n
	}
	return last
}

// refuses takes a step to which the answer is that error. Nothing changes by
// it, however often it is taken.
func (b *pair) refuses(t *testing.T, x api.Step, want api.Errno) {
	t.Helper()
	before := seen(t, b.k)
	for range 2 {
		n, e := b.do(t, x)
		if n != 0 || e != want {
			t.Fatalf("at %d Do(%+v) is %d, %d, not 0, %d", b.k.Now(), x, n, e, want)
		}
		if after := seen(t, b.k); !reflect.DeepEqual(after, before) {
			t.Fatalf("Do(%+v) is refused, but there is\n%+v\nnot\n%+v", x, after, before)
		}
	}
}

// told is a kernel of that machine that has taken these steps.
func told(t *testing.T, m api.Platform, list ...api.Step) *pair {
	t.Helper()
	b := begin(t, m)
	b.takes(t, list...)
	return b
}

// events holds the events against what is wanted.
func (b *pair) events(t *testing.T, want ...api.Event) {
	t.Helper()
	if got := b.k.Events(); !slices.Equal(got, want) {
		t.Fatalf("the events are\n%v\nnot\n%v", got, want)
	}
}

// did holds the trace against what is wanted. The Froms are those that the
// Lens make.
func (b *pair) did(t *testing.T, want ...api.Interval) {
	t.Helper()
	from := 0
	for i := range want {
		want[i].From = from
		from += want[i].Len
	}
	if got := b.k.Trace(); !slices.Equal(got, want) {
		t.Fatalf("the trace is\n%v\nnot\n%v", got, want)
	}
	if b.k.Now() != from {
		t.Fatalf("it is %d, not %d", b.k.Now(), from)
	}
}

// number holds a number that was told against what is wanted.
func number(t *testing.T, name string, got, want int) {
	t.Helper()
	if got != want {
		t.Fatalf("%s is %d, not %d", name, got, want)
	}
}

// The steps.
func admits(x api.Task) api.Step { return api.Step{Kind: api.StepAdmit, Task: x} }
func removes(n int) api.Step     { return api.Step{Kind: api.StepRemove, A: n} }
func arrives(n, after, cycles int) api.Step {
	return api.Step{Kind: api.StepArrive, A: n, B: after, C: cycles}
}
func ticks(quanta int) api.Step         { return api.Step{Kind: api.StepTick, A: quanta} }
func takesSem(s int) api.Step           { return api.Step{Kind: api.StepLock, A: s} }
func givesSem(s int) api.Step           { return api.Step{Kind: api.StepUnlock, A: s} }
func policy(policy, sleep int) api.Step { return api.Step{Kind: api.StepPolicy, A: policy, B: sleep} }
func sets(timer, after, every int) api.Step {
	return api.Step{Kind: api.StepTimer, A: timer, B: after, C: every}
}
func cancels(timer int) api.Step { return api.Step{Kind: api.StepCancel, A: timer} }

// The intervals, without their From.
func ran(task, level, quanta, cycles int) api.Interval {
	return api.Interval{Kind: api.Run, Len: quanta, Arg: level, Task: task, Cycles: cycles}
}
func idled(quanta int) api.Interval { return api.Interval{Kind: api.Idle, Len: quanta} }
func switched(level, quanta int) api.Interval {
	return api.Interval{Kind: api.Switch, Len: quanta, Arg: level}
}
func entered(state, quanta int) api.Interval {
	return api.Interval{Kind: api.Enter, Len: quanta, Arg: state}
}
func slept(state, quanta int) api.Interval {
	return api.Interval{Kind: api.Asleep, Len: quanta, Arg: state}
}
func left(state, quanta int) api.Interval {
	return api.Interval{Kind: api.Exit, Len: quanta, Arg: state}
}

// The events.
func released(task, at, due int) api.Event {
	return api.Event{Kind: api.Released, Task: task, At: at, Due: due}
}
func finished(task, at, due int) api.Event {
	return api.Event{Kind: api.Finished, Task: task, At: at, Due: due}
}
func cut(task, at, due int) api.Event { return api.Event{Kind: api.Cut, Task: task, At: at, Due: due} }
func expired(timer, at, due int) api.Event {
	return api.Event{Kind: api.Expired, Task: timer, At: at, Due: due}
}
