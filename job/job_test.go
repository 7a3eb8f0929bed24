package job

import (
	"fmt"
	"math"
	"math/big"
	"math/rand/v2"
	"reflect"
	"slices"
	"testing"

	"dormouse/admit"
	"dormouse/api"
	"dormouse/table"
	"dormouse/task"
)

// end is the greatest number of which the chapter speaks; the least one is
// -end.
const end = 1 << 30

// numbers are the ends of what the chapter speaks of, and what is around 0.
var numbers = []int{-end, -1, 0, 1, end}

// roomy is a copy of a list, with spare room that is not empty.
func roomy[T any](list []T, filler T) []T {
	if list == nil {
		return nil
	}
	more := append(slices.Clone(list), filler, filler)
	return more[:len(list)]
}

// whole is a copy of a list with its spare room.
func whole[T any](list []T) []T { return slices.Clone(list[:cap(list)]) }

// roomyMachine is a copy of a machine whose lists have spare room. What
// stands there would change each answer, if it were looked at.
func roomyMachine(p api.Platform) api.Platform {
	p.Levels = roomy(p.Levels, api.Level{P: 77, E: 78})
	p.Sleeps = roomy(p.Sleeps, api.Sleep{Even: 79})
	p.Devices = roomy(p.Devices, api.Device{Even: 80})
	return p
}

// wholeMachine is a copy of a machine, the spare room of its lists with it.
func wholeMachine(p api.Platform) api.Platform {
	p.Levels, p.Sleeps, p.Devices = whole(p.Levels), whole(p.Sleeps), whole(p.Devices)
	return p
}

// roomyTask is a copy of a task whose lists have spare room.
func roomyTask(x api.Task) api.Task {
	x.Sec, x.Devs = roomy(x.Sec, 81), roomy(x.Devs, 82)
	return x
}

// wholeTask is a copy of a task, the spare room of its lists with it.
func wholeTask(x api.Task) api.Task {
	x.Sec, x.Devs = whole(x.Sec), whole(x.Devs)
	return x
}

// speaksOf holds that the chapter speaks of all these numbers.
func speaksOf(t *testing.T, all ...int) {
	t.Helper()
	for _, x := range all {
		if x < -end || x > end {
			t.Fatalf("a number of which the chapter does not speak: %d", x)
		}
	}
}

// speaksOfJob holds that the chapter speaks of j.
func speaksOfJob(t *testing.T, j api.Job) {
	t.Helper()
	speaksOf(t, j.Task, j.Release, j.Deadline, j.Left, j.Real)
}

// newIs holds New against what is wanted, twice, and the task and its lists
// against what they were.
func newIs(t *testing.T, number int, x api.Task, release, cycles int, want api.Job) {
	t.Helper()
	speaksOf(t, number, x.Period, x.Cycles, release, cycles)
	speaksOf(t, x.Sec...)
	speaksOf(t, x.Devs...)
	x = roomyTask(x)
	was, wasWhole := x, wholeTask(x)
	for range 2 {
		if got := New(number, x, release, cycles); got != want {
			t.Fatalf("New(%d, %+v, %d, %d) is %+v, not %+v", number, x, release, cycles, got, want)
		}
		if !reflect.DeepEqual(x, was) || !reflect.DeepEqual(wholeTask(x), wasWhole) {
			t.Fatalf("New has changed the task: %+v, %+v", was, x)
		}
	}
}

// stepIs holds Step against what is wanted, twice, and the job against what
// it was.
func stepIs(t *testing.T, j, want api.Job, wantEnd int) {
	t.Helper()
	speaksOfJob(t, j)
	was := j
	for range 2 {
		if got, how := Step(j); got != want || how != wantEnd {
			t.Fatalf("Step(%+v) is %+v, %d, not %+v, %d", j, got, how, want, wantEnd)
		}
		if j != was {
			t.Fatalf("Step has changed the job: %+v, %+v", was, j)
		}
	}
}

// quantaIs holds Quanta against what is wanted, twice, and the machine, its
// lists and the job against what they were.
func quantaIs(t *testing.T, p api.Platform, j api.Job, want int) {
	t.Helper()
	speaksOfJob(t, j)
	if table.Check(p) != api.OK {
		t.Fatalf("a machine that may not be: %+v", p)
	}
	p = roomyMachine(p)
	was, wasWhole, wasJob := p, wholeMachine(p), j
	for range 2 {
		if got := Quanta(p, j); got != want {
			t.Fatalf("Quanta(%+v, %+v) is %d, not %d", p, j, got, want)
		}
		if !reflect.DeepEqual(p, was) || !reflect.DeepEqual(wholeMachine(p), wasWhole) || j != wasJob {
			t.Fatalf("Quanta has changed what it was handed: %+v, %+v", p, j)
		}
	}
}

// machine is one with levels of these Ps, of which Crit is the last one.
func machine(switching int, paces ...int) api.Platform {
	p := api.Platform{Crit: len(paces) - 1, Switch: switching, SwitchE: 3, Horizon: api.MaxHorizon}
	for _, pace := range paces {
		p.Levels = append(p.Levels, api.Level{P: pace, E: 5})
	}
	return p
}

// wayNames are the ways in which a job may have ended.
var wayNames = map[int]string{0: "goes on", api.Finished: "finished", api.Cut: "cut"}

// P11.2: the chapter's example.
func TestExample(t *testing.T) {
	stepIs(t, api.Job{Left: 1, Real: 1}, api.Job{}, api.Finished)
	stepIs(t, api.Job{Left: 1, Real: 2}, api.Job{Real: 1}, api.Cut)
}

// P11.1: each field of a new job, by hand.
func TestNew(t *testing.T) {
	newIs(t, 2, api.Task{Period: 10, Cycles: 3}, 5, 7,
		api.Job{Task: 2, Release: 5, Deadline: 15, Left: 3, Real: 7, Started: false})
	newIs(t, 0, api.Task{Period: 1, Cycles: 1}, 0, 1, api.Job{Deadline: 1, Left: 1, Real: 1})
	newIs(t, 5, api.Task{Period: api.MaxHorizon, Cycles: api.MaxCycles}, 9, 0,
		api.Job{Task: 5, Release: 9, Deadline: 9 + api.MaxHorizon, Left: api.MaxCycles})
	newIs(t, 0, api.Task{}, 0, 0, api.Job{})
}

// P11.1: each number at its ends and around 0, whatever the others are; the
// Deadline is what comes of it, be it below 0, 0, or beyond the numbers that
// may be handed in.
func TestNewAtEnds(t *testing.T) {
	deadlines := map[string]int{}
	for _, number := range numbers {
		for _, period := range numbers {
			for _, may := range numbers {
				for _, release := range numbers {
					for _, would := range numbers {
						want := api.Job{Task: number, Release: release, Deadline: period + release, Left: may, Real: would}
						newIs(t, number, api.Task{Period: period, Cycles: may}, release, would, want)
						deadlines[where(want.Deadline)]++
					}
				}
			}
		}
	}
	for _, place := range []string{"below all", "below 0", "0", "above 0", "beyond all"} {
		if deadlines[place] == 0 {
			t.Errorf("no Deadline %s", place)
		}
	}
}

// where says in which range a Deadline is.
func where(x int) string {
	switch {
	case x < -end:
		return "below all"
	case x < 0:
		return "below 0"
	case x == 0:
		return "0"
	case x <= end:
		return "above 0"
	}
	return "beyond all"
}

// P11.1: Deadlines by hand: below 0, 0, and beyond 2^30.
func TestNewDeadline(t *testing.T) {
	for _, c := range []struct{ release, period, want int }{
		{-11, 10, -1}, {-10, 10, 0}, {-9, 10, 1}, {-end, 1, -end + 1}, {-end, end, 0},
		{-end, end - 1, -1}, {1 - end, end, 1}, {end, 1, end + 1}, {end - 9, 10, end + 1}, {end, end, 1 << 31},
		{end, -1, end - 1}, {end, -end, 0}, {-1, -end, -end - 1}, {-end, -end, -1 << 31}, {7, 0, 7},
	} {
		newIs(t, 1, api.Task{Period: c.period, Cycles: 4}, c.release, 5,
			api.Job{Task: 1, Release: c.release, Deadline: c.want, Left: 4, Real: 5})
	}
}

// P11.1: semaphores and devices of the task are nothing to the job.
func TestNewOfFullTask(t *testing.T) {
	want := api.Job{Task: 3, Release: 100, Deadline: 140, Left: 6, Real: 8}
	for _, sec := range [][]int{nil, {}, {0}, {6, 6, 6}, {1, 0, 5}, numbers} {
		for _, devs := range [][]int{nil, {}, {0}, {0, 1, 2}, {2}, numbers} {
			newIs(t, 3, api.Task{Period: 40, Cycles: 6, Sec: sec, Devs: devs}, 100, 8, want)
		}
	}
}

// around are numbers with which a job ends behind a cycle, or does not.
var around = []int{-end, 1 - end, -2, -1, 0, 1, 2, 3, end - 1, end}

// P11.2: which way a job has ended: Finished, if its Real is 1 or below ahead
// of the cycle, whatever may be Left; else Cut, if its Left is.
func TestStep(t *testing.T) {
	seen := map[string]int{}
	for _, left := range around {
		for _, would := range around {
			want := 0
			switch {
			case would < 2:
				want = api.Finished
			case left < 2:
				want = api.Cut
			}
			stepIs(t, api.Job{Left: left, Real: would}, api.Job{Left: left - 1, Real: would - 1}, want)
			seen[wayNames[want]]++
		}
	}
	if len(seen) != 3 {
		t.Errorf("not all three ways: %v", seen)
	}
}

// P11.2: by hand, around the cycle with which a job ends.
func TestStepAround(t *testing.T) {
	for _, c := range []struct{ left, would, want int }{
		{2, 2, 0}, {2, 1, api.Finished}, {2, 0, api.Finished}, {2, -1, api.Finished},
		{1, 2, api.Cut}, {1, 1, api.Finished}, {1, 0, api.Finished}, {1, -1, api.Finished},
		{0, 2, api.Cut}, {0, 1, api.Finished}, {0, 0, api.Finished}, {0, -1, api.Finished},
		{-1, 2, api.Cut}, {-1, 1, api.Finished}, {-1, 0, api.Finished}, {-1, -1, api.Finished},
		{end, end, 0}, {end, 2, 0}, {2, end, 0}, {end, 1, api.Finished}, {1, end, api.Cut},
		{end, -end, api.Finished}, {-end, end, api.Cut}, {-end, -end, api.Finished}, {-end, 2, api.Cut},
	} {
		stepIs(t, api.Job{Left: c.left, Real: c.would}, api.Job{Left: c.left - 1, Real: c.would - 1}, c.want)
	}
}

// P11.2: Left and Real alone turn, and the others have no say, at their ends
// too, started or not.
func TestStepKeepsTheOthers(t *testing.T) {
	for _, started := range []bool{false, true} {
		for _, number := range numbers {
			for _, release := range numbers {
				for _, deadline := range numbers {
					j := api.Job{Task: number, Release: release, Deadline: deadline, Started: started}
					for _, c := range [][3]int{{2, 2, 0}, {1, 2, api.Cut}, {2, 1, api.Finished}, {1, 1, api.Finished}} {
						j.Left, j.Real = c[0], c[1]
						want := j
						want.Left, want.Real = c[0]-1, c[1]-1
						stepIs(t, j, want, c[2])
					}
				}
			}
		}
	}
}

// P11.1, P11.2: a job from its beginning to its end: it takes what it would,
// but no more than it may.
func TestStepToTheEnd(t *testing.T) {
	for may := 1; may <= 20; may++ {
		for would := 1; would <= 22; would++ {
			j, took, how := New(1, api.Task{Period: 9, Cycles: may}, 4, would), 0, 0
			for how == 0 && took < 100 {
				j, how = Step(j)
				took++
			}
			want := api.Job{Task: 1, Release: 4, Deadline: 13, Left: may - min(may, would), Real: would - min(may, would)}
			if took != min(may, would) || j != want || (how == api.Finished) != (would <= may) {
				t.Fatalf("%d cycles of %d took %d, and came to %+v, %d", would, may, took, j, how)
			}
		}
	}
}

// P11.3: Quanta by hand.
func TestQuanta(t *testing.T) {
	p := machine(2, 3)
	for _, c := range []struct{ left, fresh, started int }{
		{4, 16, 14}, {3, 13, 11}, {2, 10, 8}, {1, 7, 5}, {0, 4, 2}, {-1, 4, 2}, {-2, 4, 2}, {-4, 4, 2},
		{-end, 4, 2}, {end, 3<<30 + 4, 3<<30 + 2}, {api.MaxCycles, 12292, 12290},
	} {
		quantaIs(t, p, api.Job{Left: c.left}, c.fresh)
		quantaIs(t, p, api.Job{Left: c.left, Started: true}, c.started)
	}
}

// P11.3: Left, P and Switch at their ends and between.
func TestQuantaAtEnds(t *testing.T) {
	for _, switching := range []int{0, 1, 2, api.MaxLatency - 1, api.MaxLatency} {
		for _, pace := range []int{1, 2, api.MaxLatency - 1, api.MaxLatency} {
			p := machine(switching, pace)
			for _, left := range around {
				cycles := 0
				if left > 0 {
					cycles = left * pace
				}
				quantaIs(t, p, api.Job{Left: left}, cycles+switching+switching)
				quantaIs(t, p, api.Job{Left: left, Started: true}, cycles+switching)
			}
		}
	}
	quantaIs(t, machine(256, 256), api.Job{Left: end}, 1<<38+512)
	quantaIs(t, machine(256, 256), api.Job{Left: end, Started: true}, 1<<38+256)
	quantaIs(t, machine(0, 1), api.Job{Left: 0}, 0)
	quantaIs(t, machine(0, 1), api.Job{Left: -end, Started: true}, 0)
}

// P11.3: it is the first level's P, however many levels there are, and
// whichever of them is Crit.
func TestQuantaAtFirstLevel(t *testing.T) {
	paces := []int{3, 7, 20, 256}
	for levels := 1; levels <= len(paces); levels++ {
		for crit := range levels {
			p := machine(5, paces[:levels]...)
			p.Crit = crit
			quantaIs(t, p, api.Job{Left: 6}, 28)
			quantaIs(t, p, api.Job{Left: 6, Started: true}, 23)
			quantaIs(t, p, api.Job{Left: -6, Started: true}, 5)
		}
	}
}

// P11.3: of a job's fields, Left and Started alone count: not what it would
// take, nor when it was released.
func TestQuantaOfOtherFields(t *testing.T) {
	p := machine(5, 3, 4)
	for _, a := range numbers {
		for _, b := range numbers {
			quantaIs(t, p, api.Job{Task: a, Release: b, Deadline: a, Left: 6, Real: b}, 28)
			quantaIs(t, p, api.Job{Task: b, Release: a, Deadline: b, Left: 6, Real: a, Started: true}, 23)
		}
	}
}

// P11.3: a machine's other numbers and lists do not count: neither energy,
// sleep states and devices, nor the Horizon.
func TestQuantaOfFullMachine(t *testing.T) {
	p := machine(5, 3, 4)
	p.Idle, p.SwitchE, p.Sems, p.Horizon = 9, api.MaxPower, api.MaxSems, 1
	p.Sleeps = []api.Sleep{{Power: 1, Enter: 7, Exit: 8, Even: 15}, {Even: 1}}
	p.Devices = []api.Device{{On: 5, Off: 1, Down: 7, Up: 8, Even: 16}, {Even: 1}}
	quantaIs(t, p, api.Job{Left: 6}, 28)
	quantaIs(t, p, api.Job{Left: 6, Started: true}, 23)
}

// randomMachine is a machine that may be.
func randomMachine(r *rand.Rand) api.Platform {
	p := api.Platform{Sems: r.IntN(api.MaxSems + 1), Horizon: 1 + r.IntN(api.MaxHorizon), Switch: r.IntN(4)}
	if r.IntN(3) == 0 {
		p.Switch = r.IntN(api.MaxLatency + 1)
	}
	pace, step := 0, []int{1, 3, 64}[r.IntN(3)]
	for range 1 + r.IntN(api.MaxLevels) {
		pace += 1 + r.IntN(step)
		p.Levels = append(p.Levels, api.Level{P: pace, E: 400 - pace})
	}
	p.Crit = r.IntN(len(p.Levels))
	for range r.IntN(api.MaxSleeps + 1) {
		p.Sleeps = append(p.Sleeps, api.Sleep{Enter: 1, Even: 1 + r.IntN(9)})
	}
	for range r.IntN(api.MaxDevices + 1) {
		p.Devices = append(p.Devices, api.Device{On: r.IntN(9), Even: 1})
	}
	return p
}

// randomTask is a task that may be on p.
func randomTask(r *rand.Rand, p api.Platform) api.Task {
	x := api.Task{Period: 1 + r.IntN(p.Horizon), Cycles: 1 + r.IntN([]int{3, 50, api.MaxCycles}[r.IntN(3)])}
	for range r.IntN(p.Sems + 1) {
		x.Sec = append(x.Sec, r.IntN(x.Cycles+1))
	}
	for d := range p.Devices {
		if r.IntN(2) == 0 {
			x.Devs = append(x.Devs, d)
		}
	}
	return x
}

// randomNumber is one of which the chapter speaks: mostly a small one.
func randomNumber(r *rand.Rand) int {
	switch r.IntN(4) {
	case 0:
		return r.IntN(2*end+1) - end
	case 1:
		return numbers[r.IntN(len(numbers))]
	}
	return r.IntN(9) - 4
}

// randomJob has any numbers of which the chapter speaks.
func randomJob(r *rand.Rand) api.Job {
	return api.Job{
		Task: randomNumber(r), Release: randomNumber(r), Deadline: randomNumber(r),
		Left: randomNumber(r), Real: randomNumber(r), Started: r.IntN(2) == 0,
	}
}

// newIsPlain holds New against the chapter's sentence, field by field, in
// numbers without bounds.
func newIsPlain(t *testing.T, number int, x api.Task, release, cycles int) api.Job {
	t.Helper()
	var want api.Job
	want.Task = number
	want.Release = release
	want.Deadline = int(new(big.Int).Add(big.NewInt(int64(release)), big.NewInt(int64(x.Period))).Int64())
	want.Left = x.Cycles
	want.Real = cycles
	newIs(t, number, x, release, cycles, want)
	return want
}

// stepIsPlain holds Step against the chapter's sentences, in numbers without
// bounds.
func stepIsPlain(t *testing.T, j api.Job) int {
	t.Helper()
	one := big.NewInt(1)
	left := new(big.Int).Sub(big.NewInt(int64(j.Left)), one)
	would := new(big.Int).Sub(big.NewInt(int64(j.Real)), one)
	ways := []int{}
	if would.Sign() <= 0 {
		ways = append(ways, api.Finished)
	}
	if left.Sign() <= 0 {
		ways = append(ways, api.Cut)
	}
	ways = append(ways, 0)
	want := j
	want.Left, want.Real = int(left.Int64()), int(would.Int64())
	stepIs(t, j, want, ways[0])
	return ways[0]
}

// quantaIsPlain holds Quanta against the chapter's sentence, in numbers
// without bounds.
func quantaIsPlain(t *testing.T, p api.Platform, j api.Job) {
	t.Helper()
	all := new(big.Int)
	if j.Left >= 0 {
		all.Mul(big.NewInt(int64(j.Left)), big.NewInt(int64(p.Levels[0].P)))
	}
	all.Add(all, big.NewInt(int64(p.Switch)))
	if !j.Started {
		all.Add(all, big.NewInt(int64(p.Switch)))
	}
	quantaIs(t, p, j, int(all.Int64()))
}

// P11.3 beside P10.1: what a new job may take is what admission counts on of
// its task at level 0, whatever the job would take.
func TestQuantaIsWhatAdmissionCountsOn(t *testing.T) {
	r := rand.New(rand.NewPCG(11, 1))
	for range 2000 {
		p := randomMachine(r)
		x := randomTask(r, p)
		if task.Check(p, x) != api.OK {
			t.Fatalf("a task that may not be: %+v on %+v", x, p)
		}
		j := newIsPlain(t, r.IntN(api.MaxTasks), x, r.IntN(p.Horizon), randomNumber(r))
		quantaIs(t, p, j, admit.Quanta(p, x, 0))
		j.Started = true
		quantaIs(t, p, j, admit.Quanta(p, x, 0)-p.Switch)
	}
	for _, switching := range []int{0, 1, api.MaxLatency} {
		for _, pace := range []int{1, api.MaxLatency} {
			for _, cycles := range []int{1, api.MaxCycles} {
				p, x := machine(switching, pace), api.Task{Period: 1, Cycles: cycles}
				quantaIs(t, p, New(0, x, 0, 1), admit.Quanta(p, x, 0))
			}
		}
	}
}

// P11.3: each cycle makes it the first level's P less, till none is left.
func TestQuantaBehindEachCycle(t *testing.T) {
	r := rand.New(rand.NewPCG(11, 2))
	for range 300 {
		p := randomMachine(r)
		j := New(0, api.Task{Period: 9, Cycles: 1 + r.IntN(30)}, 0, 99)
		j.Started = r.IntN(2) == 0
		for j.Left > -3 {
			ahead := Quanta(p, j)
			less := 0
			if j.Left > 0 {
				less = p.Levels[0].P
			}
			j, _ = Step(j)
			quantaIs(t, p, j, ahead-less)
		}
	}
}

// P11.1 to P11.3: many machines, tasks and jobs, each call against a plain
// look at the chapter's sentences.
func TestMany(t *testing.T) {
	r := rand.New(rand.NewPCG(11, 3))
	seen := map[string]int{}
	for range 20000 {
		p := randomMachine(r)
		x := randomTask(r, p)
		if r.IntN(2) == 0 {
			x.Period, x.Cycles = randomNumber(r), randomNumber(r)
		}
		j := newIsPlain(t, randomNumber(r), x, randomNumber(r), randomNumber(r))
		seen[where(j.Deadline)]++
		j = randomJob(r)
		how := stepIsPlain(t, j)
		quantaIsPlain(t, p, j)
		seen[wayNames[how]]++
		seen[fmt.Sprint("started ", j.Started)]++
		seen[fmt.Sprint("left ", j.Left > 0)]++
		seen[fmt.Sprint("crit ", p.Crit)]++
		seen[fmt.Sprint("switch ", p.Switch > 0)]++
	}
	for _, kind := range []string{
		"below all", "below 0", "0", "above 0", "beyond all", "goes on", "finished", "cut",
		"started false", "started true", "left false", "left true",
		"crit 0", "crit 1", "crit 2", "crit 3", "switch false", "switch true",
	} {
		if seen[kind] < 100 {
			t.Errorf("only %d of %q", seen[kind], kind)
		}
	}
}

// Beyond the chapter's bracket nothing is promised; still each call answers.
func TestBeyondTheBracket(t *testing.T) {
	far := []int{math.MinInt, math.MinInt + 1, -1 << 40, 0, 1 << 40, math.MaxInt - 1, math.MaxInt}
	machines := []api.Platform{{}, {Crit: -1, Switch: math.MaxInt}, {Levels: []api.Level{}}, {Levels: []api.Level{{P: math.MaxInt}}}}
	for _, a := range far {
		for _, b := range far {
			New(a, api.Task{Period: b, Cycles: a}, b, a)
			j := api.Job{Task: a, Release: b, Deadline: a, Left: b, Real: a}
			Step(j)
			for _, p := range machines {
				Quanta(p, j)
			}
		}
	}
}
