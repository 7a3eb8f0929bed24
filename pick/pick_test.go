package pick

import (
	"math"
	"math/rand/v2"
	"reflect"
	"slices"
	"testing"

	"dormouse/api"
)

// chosen is what Choose is asked, and what it has to answer.
type chosen struct {
	name    string
	tasks   []api.Task
	list    []api.Job
	stack   []int
	ceiling int
	want    int
	ok      bool
}

// chosenIs holds the answer of Choose against what is wanted, and so twice:
// the same call, done again, has the same answer.
func chosenIs(t *testing.T, c chosen) {
	t.Helper()
	for range 2 {
		if got, ok := Choose(c.tasks, c.list, c.stack, c.ceiling); got != c.want || ok != c.ok {
			t.Fatalf("%s: Choose(%v, %v, %v, %d) is %d, %v, not %d, %v",
				c.name, c.tasks, c.list, c.stack, c.ceiling, got, ok, c.want, c.ok)
		}
	}
}

// plain is P14.1 sentence by sentence.
func plain(c chosen) (int, bool) {
	if len(c.list) == 0 {
		return 0, false
	}
	period := 0
	for number, one := range c.tasks {
		if number == c.list[0].Task {
			period = one.Period
		}
	}
	may := false
	if c.list[0].Started {
		may = true
	}
	if period < c.ceiling {
		may = true
	}
	if c.stack == nil || len(c.stack) == 0 {
		may = true
	}
	if may {
		return c.list[0].Task, true
	}
	last := 0
	for _, number := range c.stack {
		last = number
	}
	return last, true
}

// ends are the ends of an int, what is around 0, and what is around Never.
var ends = []int{
	math.MinInt, math.MinInt + 1, -api.Never, -9, -1, 0, 1, 9,
	api.Never - 1, api.Never, api.Never + 1, math.MaxInt - 1, math.MaxInt,
}

// some are tasks of which each has a Period of its own.
var some = []api.Task{{Period: 10}, {Period: 20}, {Period: 30}, {Period: 40}, {Period: 50}, {Period: 60}}

// P14.1: the chapter's examples.
func TestExamples(t *testing.T) {
	chosenIs(t, chosen{"example 1", some, []api.Job{{Task: 1}}, []int{3, 5}, api.Never, 1, true})
	chosenIs(t, chosen{"example 2", some, []api.Job{{Task: 1}}, []int{3, 5}, 20, 5, true})
}

// P14.1, R3: without a job it is 0 and false, with a stack and without one,
// whatever the ceiling is.
func TestWithoutJobs(t *testing.T) {
	for _, tasks := range [][]api.Task{nil, {}, some} {
		for _, list := range [][]api.Job{nil, {}} {
			for _, stack := range [][]int{nil, {}, {0}, {3}, {3, 5}, {-1}, {math.MinInt}, {math.MaxInt}} {
				for _, ceiling := range append([]int{10, 20}, ends...) {
					chosenIs(t, chosen{"no jobs", tasks, list, stack, ceiling, 0, false})
				}
			}
		}
	}
}

// P14.1: an empty list may have room in which there stands something.
func TestRoomOfJobs(t *testing.T) {
	room := []api.Job{{Task: 2, Started: true}}
	chosenIs(t, chosen{"room for a job", some, room[:0], []int{4}, api.Never, 0, false})
}

// P14.1: a job that is Started runs, whatever its Period and the ceiling are.
func TestStarted(t *testing.T) {
	for _, stack := range [][]int{nil, {}, {1}, {5}, {3, 5}, {5, 1}} {
		for _, ceiling := range append([]int{10, 19, 20, 21}, ends...) {
			list := []api.Job{{Task: 1, Started: true}}
			chosenIs(t, chosen{"started", some, list, stack, ceiling, 1, true})
		}
	}
}

// P14.1: a job that is not Started runs, if its Period is below the ceiling;
// at the ceiling, or above, just if the stack is empty.
func TestNotStarted(t *testing.T) {
	list := []api.Job{{Task: 1}}
	for _, ceiling := range []int{21, 22, 1000, api.Never, math.MaxInt} {
		for _, stack := range [][]int{nil, {}, {5}, {3, 5}, {1, 4, 0, 2, 3}} {
			chosenIs(t, chosen{"below", some, list, stack, ceiling, 1, true})
		}
	}
	for _, ceiling := range []int{20, 19, 1, 0, -1, math.MinInt} {
		chosenIs(t, chosen{"not below, nil stack", some, list, nil, ceiling, 1, true})
		chosenIs(t, chosen{"not below, empty stack", some, list, []int{}, ceiling, 1, true})
		chosenIs(t, chosen{"not below, a stack of one", some, list, []int{5}, ceiling, 5, true})
		chosenIs(t, chosen{"not below, a stack of two", some, list, []int{3, 5}, ceiling, 5, true})
		chosenIs(t, chosen{"not below, a stack of five", some, list, []int{1, 4, 0, 2, 3}, ceiling, 3, true})
	}
}

// P14.1: an empty stack may have room in which there stands something, and
// behind the last number of a stack too.
func TestRoomOfStack(t *testing.T) {
	room := []int{3, 5, 4}
	list := []api.Job{{Task: 1}}
	chosenIs(t, chosen{"an empty stack with room", some, list, room[:0], 20, 1, true})
	chosenIs(t, chosen{"a stack with room", some, list, room[:1], 20, 3, true})
	chosenIs(t, chosen{"a stack with room", some, list, room[:2], 20, 5, true})
}

// P14.1: a task that there is not has the Period 0: its job runs, if the
// ceiling is above 0. Tasks in spare room are no tasks.
func TestNoSuchTask(t *testing.T) {
	room := append(slices.Clone(some), api.Task{Period: -7}, api.Task{Period: 70})[:len(some)]
	numbers := []int{math.MinInt, math.MinInt + 1, -2, -1, len(some), len(some) + 1, math.MaxInt - 1, math.MaxInt}
	for _, number := range numbers {
		for _, tasks := range [][]api.Task{nil, {}, some, room} {
			if number < 0 || number >= len(some) {
				noSuchTask(t, tasks, number)
			}
		}
	}
	// No tasks at all: no number is a task's.
	for _, number := range append([]int{2, 5}, ends...) {
		noSuchTask(t, nil, number)
		noSuchTask(t, []api.Task{}, number)
		noSuchTask(t, room[:0], number)
	}
}

// noSuchTask holds what is told of a job of a task that there is not.
func noSuchTask(t *testing.T, tasks []api.Task, number int) {
	t.Helper()
	list := []api.Job{{Task: number}}
	for _, ceiling := range []int{1, 2, 20, api.Never, math.MaxInt} {
		chosenIs(t, chosen{"ceiling above 0", tasks, list, []int{3, 4}, ceiling, number, true})
	}
	for _, ceiling := range []int{0, -1, -20, -api.Never, math.MinInt} {
		chosenIs(t, chosen{"ceiling not above 0", tasks, list, []int{3, 4}, ceiling, 4, true})
		chosenIs(t, chosen{"ceiling not above 0, no stack", tasks, list, nil, ceiling, number, true})
		started := []api.Job{{Task: number, Started: true}}
		chosenIs(t, chosen{"ceiling not above 0, started", tasks, started, []int{3, 4}, ceiling, number, true})
	}
}

// P14.1: Periods and ceilings at 0, below it, at Never and at both ends of an
// int: below is below, without a wrap round.
func TestEnds(t *testing.T) {
	for _, period := range ends {
		for _, ceiling := range ends {
			want := 7
			if period < ceiling {
				want = 0
			}
			tasks := []api.Task{{Period: period}}
			chosenIs(t, chosen{"ends", tasks, []api.Job{{}}, []int{7}, ceiling, want, true})
			chosenIs(t, chosen{"ends, no stack", tasks, []api.Job{{}}, nil, ceiling, 0, true})
			chosenIs(t, chosen{"ends, started", tasks, []api.Job{{Started: true}}, []int{7}, ceiling, 0, true})
		}
	}
}

// P14.1: it is the Period of the first job's task that counts, for tasks at
// both ends of their list.
func TestWhosePeriod(t *testing.T) {
	for number := range some {
		list := []api.Job{{Task: number}}
		chosenIs(t, chosen{"at its own Period", some, list, []int{9}, some[number].Period, 9, true})
		chosenIs(t, chosen{"one above its own Period", some, list, []int{9}, some[number].Period + 1, number, true})
	}
}

// P14.1: further jobs change nothing, be they Started, of another task, more
// urgent or less.
func TestFurtherJobs(t *testing.T) {
	further := [][]api.Job{
		{{Task: 0}},
		{{Task: 0, Started: true}},
		{{Task: 5, Started: true, Deadline: -4}, {Task: 0}},
		{{Task: 1, Started: true}},
		{{Task: -1, Started: true}, {Task: math.MaxInt}},
		{{}, {}, {}, {}},
	}
	for _, others := range further {
		waits := append([]api.Job{{Task: 1, Deadline: 30}}, others...)
		chosenIs(t, chosen{"not below", some, waits, []int{3, 5}, 20, 5, true})
		chosenIs(t, chosen{"below", some, waits, []int{3, 5}, 21, 1, true})
		chosenIs(t, chosen{"no stack", some, waits, nil, 20, 1, true})
		runs := append([]api.Job{{Task: 1, Started: true}}, others...)
		chosenIs(t, chosen{"started", some, runs, []int{3, 5}, 20, 1, true})
	}
}

// P14.1: what else a job or a task has does not count.
func TestOtherFields(t *testing.T) {
	tasks := []api.Task{{Period: 10, Cycles: 99, Sec: []int{1, 99}, Devs: []int{0, 99}}}
	for _, end := range ends {
		list := []api.Job{{Release: end, Deadline: end, Left: end, Real: end}}
		chosenIs(t, chosen{"not below", tasks, list, []int{2}, 10, 2, true})
		chosenIs(t, chosen{"below", tasks, list, []int{2}, 11, 0, true})
	}
}

// P14.1: what is told of the stack is its last number, whatever that is.
func TestLastOfStack(t *testing.T) {
	for _, last := range append([]int{2, 5, 6, 7}, ends...) {
		for _, stack := range [][]int{{last}, {0, last}, {last, last}, {5, 4, 3, last}} {
			chosenIs(t, chosen{"the last", some, []api.Job{{Task: 1}}, stack, 20, last, true})
		}
	}
}

// full is tasks, jobs and a stack, each with spare room in which there stands
// something.
func full(started bool) ([]api.Task, []api.Job, []int) {
	tasks := []api.Task{
		{Period: 10, Cycles: 2, Sec: []int{1, 2, 8}[:2], Devs: []int{0, 9}[:1]},
		{Period: 20, Cycles: 3, Sec: []int{3, 7}[:1], Devs: []int{1, 2, 6}[:2]},
		{Period: -5, Cycles: -6, Sec: []int{-7}, Devs: []int{-8}},
	}
	list := []api.Job{
		{Task: 1, Release: 2, Deadline: 3, Left: 4, Real: 5, Started: started},
		{Task: 0, Release: 6, Deadline: 7, Left: 8, Real: 9, Started: !started},
		{Task: -1, Release: -2, Deadline: -3, Left: -4, Real: -5, Started: true},
	}
	return tasks[:2], list[:2], []int{0, 1, 5, -9}[:3]
}

// R4: the tasks with all their lists, the jobs and the stack are as they were
// behind each kind of call, spare room included.
func TestMemory(t *testing.T) {
	for _, started := range []bool{false, true} {
		for _, ceiling := range []int{math.MinInt, 0, 20, 21, api.Never} {
			for jobs := range 3 {
				for numbers := range 4 {
					tasks, list, stack := full(started)
					Choose(tasks, list[:jobs], stack[:numbers], ceiling)
					wantTasks, wantList, wantStack := full(started)
					same(t, tasks[:3], wantTasks[:3])
					same(t, list[:3], wantList[:3])
					same(t, stack[:4], wantStack[:4])
					for i, one := range tasks {
						same(t, one.Sec[:cap(one.Sec)], wantTasks[i].Sec[:cap(wantTasks[i].Sec)])
						same(t, one.Devs[:cap(one.Devs)], wantTasks[i].Devs[:cap(wantTasks[i].Devs)])
					}
				}
			}
		}
	}
}

// same holds a list behind a call against what it was.
func same(t *testing.T, got, want any) {
	t.Helper()
	if !reflect.DeepEqual(got, want) {
		t.Fatalf("behind the call it is %v, not %v", got, want)
	}
}

// R4, R5: nothing is kept: what the caller writes into its lists counts from
// then on, and what another call was told does not.
func TestNothingKept(t *testing.T) {
	tasks, list, stack := full(false)
	chosenIs(t, chosen{"at first", tasks, list, stack, 20, 5, true})
	stack[2] = 3
	chosenIs(t, chosen{"another stack", tasks, list, stack, 20, 3, true})
	tasks[1].Period = 19
	chosenIs(t, chosen{"another Period", tasks, list, stack, 20, 1, true})
	list[0].Task = 7
	chosenIs(t, chosen{"another task", tasks, list, stack, 20, 7, true})
	chosenIs(t, chosen{"another ceiling", tasks, list, stack, 0, 3, true})
	list[0].Started = true
	chosenIs(t, chosen{"started", tasks, list, stack, 0, 7, true})
	chosenIs(t, chosen{"no jobs", tasks, nil, stack, 0, 0, false})
}

// drawn is one of a few numbers around a task's, and now and then any at all.
func drawn(r *rand.Rand) int {
	if r.IntN(8) == 0 {
		return ends[r.IntN(len(ends))]
	}
	return r.IntN(9) - 1
}

// draw is lists and a ceiling at random.
func draw(r *rand.Rand) chosen {
	c := chosen{name: "drawn", ceiling: drawn(r)}
	for range r.IntN(5) {
		c.tasks = append(c.tasks, api.Task{Period: drawn(r)})
	}
	for range r.IntN(4) {
		c.list = append(c.list, api.Job{Task: drawn(r), Started: r.IntN(4) == 0})
	}
	for range r.IntN(4) {
		c.stack = append(c.stack, drawn(r))
	}
	return c
}

// P14.1: many lists, against the promise's sentences one by one.
func TestMany(t *testing.T) {
	r := rand.New(rand.NewPCG(14, 1))
	first, last, none := 0, 0, 0
	for range 200000 {
		c := draw(r)
		c.want, c.ok = plain(c)
		chosenIs(t, c)
		switch {
		case !c.ok:
			none++
		case c.want == c.list[0].Task:
			first++
		default:
			last++
		}
	}
	if first < 1000 || last < 1000 || none < 1000 {
		t.Fatalf("too few of a kind: %d of the first job, %d of the stack, %d of none", first, last, none)
	}
}
