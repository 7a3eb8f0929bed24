package plan

import (
	"math"
	"math/rand/v2"
	"reflect"
	"slices"
	"testing"

	"dormouse/api"
	"dormouse/task"
)

// last is the last moment of which the chapter speaks.
const last = 1 << 21

// view is what Until is asked about.
type view struct {
	tasks  []api.Task
	next   []int
	list   []api.Job
	d, now int
}

// needing is a task that needs these devices.
func needing(devs ...int) api.Task {
	return api.Task{Period: 10, Cycles: 2, Devs: devs}
}

// jobOf is a job of that task.
func jobOf(number int) api.Job {
	return api.Job{Task: number, Release: 5, Deadline: 15, Left: 2, Real: 2}
}

// alone is a view of one task, without jobs.
func alone(x api.Task, next, d, now int) view {
	return view{[]api.Task{x}, []int{next}, nil, d, now}
}

// jobFault says what is wrong with the jobs; nothing, if nothing is.
func jobFault(v view) string {
	had := map[int]int{}
	for _, j := range v.list {
		had[j.Task]++
		if j.Task < 0 || j.Task >= len(v.tasks) || v.tasks[j.Task].Period == 0 || had[j.Task] > 1 {
			return "a job too much"
		}
		if j.Left < 0 || j.Left > api.MaxCycles {
			return "a job's Left"
		}
		if min(j.Release, j.Deadline) < 0 || max(j.Release, j.Deadline) > last {
			return "a job's moment"
		}
	}
	return ""
}

// bracketFault says what there is that the chapter does not speak of; nothing,
// if it speaks of all.
func bracketFault(v view) string {
	// The greatest machine has all tasks that any machine has.
	p := api.Platform{Devices: make([]api.Device, api.MaxDevices), Sems: api.MaxSems, Horizon: api.MaxHorizon}
	if len(v.tasks) > 64 || len(v.next) != len(v.tasks) {
		return "too many tasks, or too few moments"
	}
	for _, x := range v.tasks {
		none := x.Period == 0 && x.Cycles == 0 && len(x.Sec) == 0 && len(x.Devs) == 0
		if !none && task.Check(p, x) != api.OK {
			return "a task that may not be"
		}
	}
	moments := append([]int{v.now}, v.next...)
	if slices.Min(moments) < 0 || slices.Max(moments) > last {
		return "a moment"
	}
	return jobFault(v)
}

// roomy is a copy of a list, with spare room that is not empty.
func roomy[T any](list []T, filler T) []T {
	if list == nil {
		return nil
	}
	more := append(slices.Clone(list), filler, filler)
	return more[:len(list)]
}

// roomyView is a copy whose lists have spare room. What stands there would
// change the answers, if it were looked at.
func roomyView(v view) view {
	someone := slices.IndexFunc(v.tasks, func(x api.Task) bool { return slices.Contains(x.Devs, v.d) })
	v.list = roomy(v.list, jobOf(max(0, someone)))
	v.tasks = roomy(v.tasks, needing(v.d))
	for i, x := range v.tasks {
		v.tasks[i].Sec, v.tasks[i].Devs = roomy(x.Sec, 1), roomy(x.Devs, v.d)
	}
	v.next = roomy(v.next, 0)
	return v
}

// whole is a copy of a list with its spare room.
func whole[T any](list []T) []T { return slices.Clone(list[:cap(list)]) }

// wholeView is a copy, the spare room of all lists with it.
func wholeView(v view) view {
	v.tasks, v.next, v.list = whole(v.tasks), whole(v.next), whole(v.list)
	for i, x := range v.tasks {
		v.tasks[i].Sec, v.tasks[i].Devs = whole(x.Sec), whole(x.Devs)
	}
	return v
}

// lengths are those of all lists.
func lengths(v view) []int {
	all := []int{len(v.tasks), len(v.next), len(v.list)}
	for _, x := range v.tasks[:cap(v.tasks)] {
		all = append(all, len(x.Sec), len(x.Devs))
	}
	return all
}

// untilIs holds the answer of Until against what is wanted, twice, and all
// that it was handed against what it was.
func untilIs(t *testing.T, name string, v view, want int) {
	t.Helper()
	if fault := bracketFault(v); fault != "" {
		t.Fatalf("%s: the chapter does not speak of it: %s: %+v", name, fault, v)
	}
	one := roomyView(v)
	wasWhole, wasLengths := wholeView(one), lengths(one)
	for range 2 {
		if got := Until(one.tasks, one.next, one.list, one.d, one.now); got != want {
			t.Fatalf("%s: Until of %+v is %d, not %d", name, one, got, want)
		}
		if !reflect.DeepEqual(wholeView(one), wasWhole) || !slices.Equal(lengths(one), wasLengths) {
			t.Fatalf("%s: Until has changed what it was handed: %+v", name, one)
		}
	}
}

// plain is P18.1 sentence by sentence.
func plain(v view) int {
	for _, j := range v.list {
		if slices.Contains(v.tasks[j.Task].Devs, v.d) {
			return v.now
		}
	}
	var moments []int
	for i, x := range v.tasks {
		if !slices.Contains(x.Devs, v.d) {
			continue
		}
		if v.next[i] > v.now {
			moments = append(moments, v.next[i])
		} else {
			moments = append(moments, v.now)
		}
	}
	if len(moments) == 0 {
		return api.Never
	}
	slices.Sort(moments)
	return moments[0]
}

// plainIs holds Until against the promise's sentence.
func plainIs(t *testing.T, name string, v view) {
	t.Helper()
	untilIs(t, name, v, plain(v))
}

// nows are moments at both ends and between.
var nows = []int{0, 1, 2, 7, 1000, 1 << 20, last - 1, last}

// devices are numbers of devices, and such as no device has.
var devices = []int{
	math.MinInt, math.MinInt + 1, -1 << 40, -3, -2, -1, 0, 1, 2, 3, 4, 64, 1 << 32, 1 << 40, math.MaxInt - 1, math.MaxInt,
}

// P18.1: the chapter's example: without tasks, or if none of them needs it.
func TestExample(t *testing.T) {
	for _, d := range devices {
		for _, now := range nows {
			untilIs(t, "no tasks", view{d: d, now: now}, api.Never)
			untilIs(t, "no tasks", view{[]api.Task{}, []int{}, []api.Job{}, d, now}, api.Never)
			v := view{[]api.Task{needing(), needing(), {Period: 1, Cycles: 1, Devs: []int{}}}, []int{0, now, last}, nil, d, now}
			untilIs(t, "nobody needs any", v, api.Never)
			v.list = []api.Job{jobOf(2), jobOf(0), jobOf(1)}
			untilIs(t, "nobody needs any, and all have jobs", v, api.Never)
		}
	}
	if api.Never != 1<<40 {
		t.Fatal("Never is another moment")
	}
}

// P18.1: tasks of Period 0 are none, whatever their next is.
func TestNoTaskAlone(t *testing.T) {
	for _, count := range []int{1, 2, 64} {
		for _, d := range devices {
			for _, next := range []int{0, 499, 500, 501, last} {
				v := view{make([]api.Task, count), slices.Repeat([]int{next}, count), nil, d, 500}
				untilIs(t, "none", v, api.Never)
				v.tasks[0] = api.Task{Sec: []int{}, Devs: []int{}}
				untilIs(t, "none", v, api.Never)
			}
		}
	}
}

// P18.1: a task of Period 0 among others never counts, in whatever place, and
// the others keep their numbers.
func TestNoTaskAmongOthers(t *testing.T) {
	for place := range 3 {
		for _, next := range []int{0, 500, 501, last} {
			v := view{[]api.Task{needing(1), needing(0, 1)}, []int{700, 800}, nil, 1, 500}
			v.tasks = slices.Insert(v.tasks, place, api.Task{})
			v.next = slices.Insert(v.next, place, next)
			untilIs(t, "two and none", v, 700)
			v.d = 0
			untilIs(t, "one and none", v, 800)
			v.d = 2
			untilIs(t, "nobody", v, api.Never)
		}
	}
}

// P18.1: 64 tasks, of which one needs the device, at each place.
func TestSixtyFour(t *testing.T) {
	for place := range 64 {
		v := view{slices.Repeat([]api.Task{needing(0)}, 64), slices.Repeat([]int{600}, 64), nil, 2, 500}
		untilIs(t, "nobody", v, api.Never)
		v.tasks[place] = needing(0, 2)
		untilIs(t, "one of 64", v, 600)
		v.next[place] = last
		untilIs(t, "one of 64, the last to come", v, last)
		for other := range 64 {
			if other != place {
				v.list = append(v.list, jobOf(other))
			}
		}
		untilIs(t, "one of 64, which alone has no job", v, last)
		v.list = append(v.list, jobOf(place))
		untilIs(t, "one of 64, with a job", v, 500)
	}
}

// P18.1: a device that nobody needs, one that one task needs, and such as
// several need; and numbers that no device has.
func TestWhichDevice(t *testing.T) {
	v := view{tasks: []api.Task{needing(1, 2), needing(2), needing()}, next: []int{300, 200, 150}, now: 100}
	for _, d := range devices {
		v.d = d
		switch d {
		case 1:
			untilIs(t, "that one needs", v, 300)
		case 2:
			untilIs(t, "that two need", v, 200)
		default:
			untilIs(t, "that nobody needs", v, api.Never)
		}
	}
	v.tasks[2], v.next[2] = needing(0, 1, 2), 250
	for d, want := range map[int]int{-1: api.Never, 0: 250, 1: 250, 2: 200, 3: api.Never} {
		v.d = d
		untilIs(t, "with one that needs all", v, want)
	}
	v.list = []api.Job{jobOf(0)}
	for d, want := range map[int]int{-1: api.Never, 0: 250, 1: 100, 2: 100, 3: api.Never} {
		v.d = d
		untilIs(t, "with a job", v, want)
	}
}

// P18.1: numbers that no device has, though each task has a job and needs all
// that there are.
func TestNoSuchDevice(t *testing.T) {
	v := view{[]api.Task{needing(0, 1, 2), needing(0, 1, 2)}, []int{0, last}, []api.Job{jobOf(1), jobOf(0)}, 0, 70}
	for _, d := range devices {
		v.d = d
		if 0 <= d && d < api.MaxDevices {
			untilIs(t, "a device", v, 70)
		} else {
			untilIs(t, "no device", v, api.Never)
		}
	}
}

// P18.1: d may stand first, in the middle or last in Devs; numbers around it
// do not count.
func TestWhereInDevs(t *testing.T) {
	for d := range api.MaxDevices {
		for _, devs := range [][]int{nil, {}, {0}, {1}, {2}, {0, 1}, {0, 2}, {1, 2}, {0, 1, 2}} {
			want, withJob := api.Never, api.Never
			if slices.Contains(devs, d) {
				want, withJob = 90, 40
			}
			v := alone(needing(devs...), 90, d, 40)
			untilIs(t, "without a job", v, want)
			v.list = []api.Job{jobOf(0)}
			untilIs(t, "with a job", v, withJob)
		}
	}
}

// P18.1: of several tasks that need it, the one whose next job may come first
// counts, wherever it stands; and two of the same moment are as one.
func TestWhichTask(t *testing.T) {
	for place := range 3 {
		for _, now := range []int{0, 10, 400} {
			v := view{[]api.Task{needing(1), needing(0, 1), needing(1, 2)}, []int{900, 900, 900}, nil, 1, now}
			untilIs(t, "equal", v, 900)
			v.next[place] = 500
			untilIs(t, "one is first", v, 500)
			v.next[(place+1)%3] = 700
			untilIs(t, "all differ", v, 500)
			v.next[(place+2)%3] = 500
			untilIs(t, "two are first", v, 500)
			v.next[place] = 899
			untilIs(t, "another is first", v, 500)
			v.next = []int{900, 900, 900}
			v.next[place] = 899
			untilIs(t, "by one quantum", v, 899)
		}
	}
}

// P18.1: a task that does not need it changes nothing, though its next job may
// come earlier, or later, or it has a job.
func TestOthersChangeNothing(t *testing.T) {
	for place := range 3 {
		for _, next := range []int{0, 49, 50, 51, 59, 60, 61, last} {
			v := view{[]api.Task{needing(1), needing(1, 2)}, []int{80, 60}, nil, 1, 50}
			v.tasks = slices.Insert(v.tasks, place, needing(0, 2))
			v.next = slices.Insert(v.next, place, next)
			untilIs(t, "another task", v, 60)
			v.list = []api.Job{jobOf(place)}
			untilIs(t, "another task with a job", v, 60)
		}
	}
}

// P18.1: a task's next job may come from its next on, but not ahead of now.
func TestNextAroundNow(t *testing.T) {
	for next, want := range map[int]int{
		0: 500, 1: 500, 400: 500, 499: 500, 500: 500, 501: 501, 502: 502, 600: 600, last - 1: last - 1, last: last,
	} {
		untilIs(t, "at 500", alone(needing(1), next, 1, 500), want)
	}
	for now, want := range map[int]int{
		0: 60, 1: 60, 59: 60, 60: 60, 61: 61, 62: 62, 100: 100, last - 1: last - 1, last: last,
	} {
		untilIs(t, "next at 60", alone(needing(1), 60, 1, now), want)
	}
	// One that could have come long ago does not hide behind one yet to come.
	for _, next := range [][]int{{0, 900}, {900, 0}, {500, 501}, {501, 500}, {0, 499}, {0, 0}} {
		v := view{[]api.Task{needing(1), needing(1)}, next, nil, 1, 500}
		untilIs(t, "two at 500", v, 500)
	}
}

// P18.1: now and next at both ends of the chapter's moments.
func TestEndsOfMoments(t *testing.T) {
	for _, now := range nows {
		for _, next := range nows {
			untilIs(t, "ends", alone(needing(0), next, 0, now), max(next, now))
			untilIs(t, "ends", alone(needing(0), next, 1, now), api.Never)
			v := alone(needing(0), next, 0, now)
			v.list = []api.Job{jobOf(0)}
			untilIs(t, "ends, with a job", v, now)
		}
	}
}

// P18.1: a job of a task that needs it: now, wherever the tasks' next are, and
// though another task that needs it has none.
func TestJob(t *testing.T) {
	for _, now := range nows {
		for _, next := range [][]int{{0, 0}, {now, now}, {last, last}, {0, last}, {last, 0}} {
			for number := range 2 {
				v := view{[]api.Task{needing(0, 2), needing(2)}, next, []api.Job{jobOf(number)}, 2, now}
				untilIs(t, "one has a job", v, now)
				v.list = append(v.list, jobOf(1-number))
				untilIs(t, "both have a job", v, now)
			}
		}
	}
}

// P18.1: it may be the first, the middle or the last one of several jobs.
func TestWhichJob(t *testing.T) {
	for place := range 3 {
		for number := range 4 {
			v := view{slices.Repeat([]api.Task{needing(0, 2)}, 4), []int{200, 300, 400, 500}, nil, 1, 100}
			for other := range 4 {
				if other != number && len(v.list) < 2 {
					v.list = append(v.list, jobOf(other))
				}
			}
			v.list = slices.Insert(v.list, place, jobOf(number))
			untilIs(t, "three jobs that do not need it", v, api.Never)
			v.tasks[number] = needing(1)
			untilIs(t, "one that needs it", v, 100)
			v.list = slices.Delete(v.list, place, place+1)
			untilIs(t, "and without its job", v, v.next[number])
		}
	}
}

// P18.1: jobs of tasks that do not need it change nothing: the others' next
// count.
func TestJobsOfOthers(t *testing.T) {
	v := view{[]api.Task{needing(0), needing(1), needing(0, 2), needing(1)}, []int{150, 300, 250, 280}, nil, 1, 200}
	for _, list := range [][]api.Job{nil, {}, {jobOf(0)}, {jobOf(2)}, {jobOf(0), jobOf(2)}, {jobOf(2), jobOf(0)}} {
		v.list, v.d = list, 1
		untilIs(t, "jobs of others", v, 280)
		v.d = 3
		untilIs(t, "jobs of all others", v, api.Never)
	}
	v.list, v.d = []api.Job{jobOf(2), jobOf(3)}, 1
	untilIs(t, "and one that needs it", v, 200)
	v.d = 2
	untilIs(t, "the other device", v, 200)
	v.list = v.list[1:]
	untilIs(t, "the other device", v, 250)
}

// P18.1: nothing of a job but its Task changes anything.
func TestFieldsOfJobs(t *testing.T) {
	for _, at := range []int{0, 99, 100, 101, 150, last} {
		for _, due := range []int{0, 99, 100, 101, 150, last} {
			for _, left := range []int{0, 1, api.MaxCycles} {
				for _, real := range []int{math.MinInt, -1, 0, 1, math.MaxInt} {
					for _, started := range []bool{false, true} {
						j := api.Job{Release: at, Deadline: due, Left: left, Real: real, Started: started}
						v := view{[]api.Task{needing(0), needing(1)}, []int{150, 150}, []api.Job{j}, 0, 100}
						untilIs(t, "its own device", v, 100)
						v.d = 1
						untilIs(t, "another device", v, 150)
					}
				}
			}
		}
	}
}

// P18.1: nothing of a task but its Devs and its next changes anything.
func TestFieldsOfTasks(t *testing.T) {
	for _, period := range []int{1, 2, 99, 100, 150, api.MaxHorizon} {
		for _, cycles := range []int{1, 2, api.MaxCycles} {
			for _, sec := range [][]int{nil, {}, {0}, {1}, {0, 1}, {1, 0, 1}, {1, 1, 1}} {
				x := api.Task{Period: period, Cycles: cycles, Sec: sec, Devs: []int{0, 2}}
				v := view{[]api.Task{needing(), x}, []int{120, 150}, nil, 0, 100}
				for d, want := range map[int]int{-1: api.Never, 0: 150, 1: api.Never, 2: 150, 3: api.Never} {
					v.d = d
					untilIs(t, "a task", v, want)
				}
				v.list = []api.Job{jobOf(1)}
				untilIs(t, "a task with a job", v, plain(v))
			}
		}
	}
}

// subsets are all lists of devices that a task may need.
func subsets() [][]int {
	return [][]int{nil, {0}, {1}, {2}, {0, 1}, {0, 2}, {1, 2}, {0, 1, 2}}
}

// P18.1: two tasks of any devices, with any small moments and any jobs.
func TestEverySmallView(t *testing.T) {
	lists := [][]api.Job{nil, {jobOf(0)}, {jobOf(1)}, {jobOf(0), jobOf(1)}, {jobOf(1), jobOf(0)}}
	for _, one := range subsets() {
		for _, other := range subsets() {
			for moments := range 27 {
				for _, list := range lists {
					for d := -1; d <= api.MaxDevices; d++ {
						next := []int{moments % 3, moments / 3 % 3}
						v := view{[]api.Task{needing(one...), needing(other...)}, next, list, d, moments / 9}
						plainIs(t, "small", v)
					}
				}
			}
		}
	}
}

// R4, R5: nothing is kept: what the caller writes into its lists counts from
// then on.
func TestNothingKept(t *testing.T) {
	v := view{[]api.Task{needing(1), needing(0, 1)}, []int{80, 90}, []api.Job{}, 1, 50}
	untilIs(t, "at first", v, 80)
	v.next[0] = 85
	untilIs(t, "another next", v, 85)
	v.tasks[0].Devs[0] = 2
	untilIs(t, "another device", v, 90)
	v.list = append(v.list, jobOf(0))
	untilIs(t, "a job", v, 90)
	v.list[0].Task = 1
	untilIs(t, "a job of another task", v, 50)
	v.list, v.tasks[1] = v.list[:0], api.Task{}
	untilIs(t, "no task any more", v, api.Never)
}

// ends are numbers at the ends of int, and such as are no number of anything.
var ends = []int{math.MinInt, math.MinInt + 1, -1 << 40, -7, -1, 7, 1 << 40, math.MaxInt - 1, math.MaxInt}

// R1, R7: a call ends without a panic also where nothing is promised of it.
func TestBeyondTheBracket(t *testing.T) {
	Until(nil, nil, []api.Job{{}}, 0, 0)
	Until([]api.Task{needing(0), needing(0)}, nil, nil, 0, 0)
	Until([]api.Task{needing(0)}, []int{1, 2, 3}, nil, 0, 0)
	for _, end := range ends {
		tasks := []api.Task{{Period: end, Cycles: end, Sec: []int{end}, Devs: []int{end}}, needing(1), {Devs: []int{0, end, 0}}}
		list := []api.Job{{Task: end, Release: end, Deadline: end, Left: end, Real: end}, jobOf(3), jobOf(-1)}
		for _, now := range append([]int{0, last}, ends...) {
			for _, d := range devices {
				Until(tasks, []int{end, now}, list, d, now)
				Until(tasks, []int{now, end, end, end}, list[:1], end, now)
				Until(tasks, nil, nil, d, now)
			}
		}
	}
}

// drawTask is a task that may be, or, now and then, one that is none.
func drawTask(r *rand.Rand) api.Task {
	if r.IntN(6) == 0 {
		return api.Task{}
	}
	x := api.Task{Period: 1 + r.IntN(api.MaxHorizon), Cycles: 1 + r.IntN(api.MaxCycles)}
	for range r.IntN(api.MaxSems + 1) {
		x.Sec = append(x.Sec, r.IntN(x.Cycles+1))
	}
	for d := range api.MaxDevices {
		if r.IntN(3) == 0 {
			x.Devs = append(x.Devs, d)
		}
	}
	return x
}

// drawMoment is one around a mark, or any at all.
func drawMoment(r *rand.Rand, mark int) int {
	if r.IntN(8) == 0 {
		return r.IntN(last + 1)
	}
	return min(max(0, mark+r.IntN(41)-16), last)
}

// drawDevice is mostly the number of a device.
func drawDevice(r *rand.Rand) int {
	if r.IntN(8) == 0 {
		return devices[r.IntN(len(devices))]
	}
	return r.IntN(api.MaxDevices)
}

// draw is a view at random.
func draw(r *rand.Rand) view {
	v := view{d: drawDevice(r), now: r.IntN(40)}
	if r.IntN(4) == 0 {
		v.now = r.IntN(last + 1)
	}
	count := r.IntN(8)
	if r.IntN(50) == 0 {
		count = 64
	}
	for i := range count {
		v.tasks = append(v.tasks, drawTask(r))
		v.next = append(v.next, drawMoment(r, v.now))
		if v.tasks[i].Period == 0 || r.IntN(5) > 0 {
			continue
		}
		v.list = append(v.list, api.Job{
			Task: i, Release: drawMoment(r, v.now), Deadline: drawMoment(r, v.now),
			Left: r.IntN(api.MaxCycles + 1), Real: r.IntN(9) - 4, Started: r.IntN(2) == 0,
		})
	}
	r.Shuffle(len(v.list), func(i, j int) { v.list[i], v.list[j] = v.list[j], v.list[i] })
	return v
}

// P18.1: many views, against the promise's sentence.
func TestMany(t *testing.T) {
	r := rand.New(rand.NewPCG(18, 1))
	byJob, atNow, later, never := 0, 0, 0, 0
	for range 20000 {
		v := draw(r)
		plainIs(t, "drawn", v)
		isNeeded := func(j api.Job) bool { return slices.Contains(v.tasks[j.Task].Devs, v.d) }
		switch until := plain(v); {
		case slices.ContainsFunc(v.list, isNeeded):
			byJob++
		case until == v.now:
			atNow++
		case until == api.Never:
			never++
		default:
			later++
		}
	}
	if byJob < 2000 || atNow < 2000 || later < 2000 || never < 2000 {
		t.Fatalf("too few of a kind: %d by a job, %d at now, %d later, %d never", byJob, atNow, later, never)
	}
}
