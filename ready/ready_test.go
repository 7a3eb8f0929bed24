package ready

import (
	"fmt"
	"math"
	"math/rand/v2"
	"slices"
	"testing"

	"dormouse/api"
)

// plain is what a set has to be, as a list in order.
type plain struct{ list []api.Job }

// aheadOf tells whether a stands ahead of b, by the chapter's sentence.
func aheadOf(a, b api.Job) bool {
	if a.Deadline == b.Deadline {
		return a.Task < b.Task
	}
	return a.Deadline < b.Deadline
}

func (p *plain) put(j api.Job) {
	p.drop(j.Task)
	at := 0
	for at < len(p.list) && aheadOf(p.list[at], j) {
		at++
	}
	p.list = slices.Insert(p.list, at, j)
}

func (p *plain) drop(task int) bool {
	for i, j := range p.list {
		if j.Task == task {
			p.list = slices.Delete(p.list, i, i+1)
			return true
		}
	}
	return false
}

func (p *plain) get(task int) (api.Job, bool) {
	for _, j := range p.list {
		if j.Task == task {
			return j, true
		}
	}
	return api.Job{}, false
}

func (p *plain) first() (api.Job, bool) {
	for _, j := range p.list {
		return j, true
	}
	return api.Job{}, false
}

func (p *plain) last() int {
	deadline := 0
	for _, j := range p.list {
		deadline = j.Deadline
	}
	return deadline
}

// ends are the ends of an int, and what is around 0.
var ends = []int{math.MinInt, math.MinInt + 1, -9, -1, 0, 1, 9, math.MaxInt - 1, math.MaxInt}

// due is a job of which only the task and the Deadline are set.
func due(task, deadline int) api.Job {
	return api.Job{Task: task, Deadline: deadline}
}

// built is a set into which the jobs were put, one by one.
func built(jobs ...api.Job) *Set {
	s := New()
	for _, j := range jobs {
		s.Put(j)
	}
	return s
}

// listIs holds List against what is wanted. Who is told a list may write into
// it, its spare room included: it does so here.
func listIs(t *testing.T, s *Set, want []api.Job) {
	t.Helper()
	got := s.List()
	if !slices.Equal(got, want) {
		t.Fatalf("List is %+v, not %+v", got, want)
	}
	got = got[:cap(got)]
	for i := range got {
		got[i] = api.Job{Task: 1 - i, Release: 3, Deadline: -i, Left: 5, Real: 6, Started: true}
	}
}

// getIs holds Get of one task against what is wanted.
func getIs(t *testing.T, s *Set, task int, want api.Job, wantOK bool) {
	t.Helper()
	if got, ok := s.Get(task); got != want || ok != wantOK {
		t.Fatalf("Get(%d) is %+v, %v, not %+v, %v", task, got, ok, want, wantOK)
	}
}

// noneOf holds that the task has no job.
func noneOf(t *testing.T, s *Set, task int) {
	t.Helper()
	getIs(t, s, task, api.Job{}, false)
}

// looks holds all that can be looked at against what is wanted, and so twice:
// to look changes nothing.
func looks(t *testing.T, s *Set, p *plain) {
	t.Helper()
	want, wantOK := p.first()
	for range 2 {
		listIs(t, s, p.list)
		if got, ok := s.First(); got != want || ok != wantOK {
			t.Fatalf("First is %+v, %v, not %+v, %v", got, ok, want, wantOK)
		}
		if got := s.Last(); got != p.last() {
			t.Fatalf("Last is %d, not %d", got, p.last())
		}
		for _, j := range p.list {
			getIs(t, s, j.Task, j, true)
		}
	}
}

// has holds a set against the jobs that it has to have, in their order.
func has(t *testing.T, s *Set, want ...api.Job) {
	t.Helper()
	looks(t, s, &plain{want})
}

// puts puts one job into both.
func puts(s *Set, p *plain, j api.Job) {
	s.Put(j)
	p.put(j)
}

// dropIs holds Drop of one task against what is wanted; behind it the task has
// no job in any case.
func dropIs(t *testing.T, s *Set, task int, want bool) {
	t.Helper()
	if got := s.Drop(task); got != want {
		t.Fatalf("Drop(%d) is %v, not %v", task, got, want)
	}
	noneOf(t, s, task)
}

// drops drops one task's job out of both, and holds the answers against each
// other.
func drops(t *testing.T, s *Set, p *plain, task int) {
	t.Helper()
	dropIs(t, s, task, p.drop(task))
}

// P12.2: the chapter's example.
func TestExample(t *testing.T) {
	has(t, built(due(4, 9), due(2, 9)), due(2, 9), due(4, 9))
	has(t, built(due(2, 9), due(4, 9)), due(2, 9), due(4, 9))
}

// P12.1, P12.2: a set without jobs, made by New, by nobody, or emptied.
func TestEmpty(t *testing.T) {
	dropped, again := built(due(4, 9)), built(due(4, 9), due(0, -9), due(0, 9))
	dropIs(t, dropped, 4, true)
	dropIs(t, again, 0, true)
	dropIs(t, again, 4, true)
	for _, s := range []*Set{New(), {}, dropped, again} {
		if s == nil {
			t.Fatal("New is nil")
		}
		has(t, s)
		for _, task := range append([]int{2, 4}, ends...) {
			noneOf(t, s, task)
			dropIs(t, s, task, false)
		}
		has(t, s)
		s.Put(due(4, 7))
		has(t, s, due(4, 7))
	}
}

// P12.1: two sets have nothing to do with each other.
func TestTwoSets(t *testing.T) {
	a, b := New(), New()
	if a == b {
		t.Fatal("New is the same set twice")
	}
	a.Put(due(1, 5))
	b.Put(due(1, 6))
	b.Put(due(2, 4))
	has(t, a, due(1, 5))
	has(t, b, due(2, 4), due(1, 6))
	dropIs(t, b, 1, true)
	has(t, a, due(1, 5))
	has(t, b, due(2, 4))
}

// P12.1: what is put is the task's job; one that was there is gone, whether it
// was due earlier, at the same moment or later.
func TestPutAgain(t *testing.T) {
	others := []api.Job{due(2, 10), due(5, 20), due(8, 30)}
	for _, old := range []int{5, 10, 15, 20, 25, 30, 35} {
		for _, deadline := range []int{5, 10, 15, 20, 25, 30, 35} {
			for _, task := range []int{1, 2, 3, 5, 7, 8, 9} {
				s, p := built(others...), &plain{slices.Clone(others)}
				puts(s, p, due(task, old))
				looks(t, s, p)
				j := due(task, deadline)
				j.Left = 7
				puts(s, p, j)
				looks(t, s, p)
				drops(t, s, p, task)
				looks(t, s, p)
				drops(t, s, p, task)
				looks(t, s, p)
			}
		}
	}
}

// P12.1, P12.2: a second job that is due earlier, or later, stands where its
// own Deadline puts it.
func TestPutAgainMoves(t *testing.T) {
	s := built(due(1, 10), due(2, 20), due(3, 30))
	s.Put(due(3, 5))
	has(t, s, due(3, 5), due(1, 10), due(2, 20))
	s.Put(due(3, 15))
	has(t, s, due(1, 10), due(3, 15), due(2, 20))
	s.Put(due(1, 99))
	has(t, s, due(3, 15), due(2, 20), due(1, 99))
	s.Put(due(1, 20))
	has(t, s, due(3, 15), due(1, 20), due(2, 20))
	s.Put(due(2, 15))
	has(t, s, due(2, 15), due(3, 15), due(1, 20))
}

// others are jobs that differ from j in one field each, neither its Task nor
// its Deadline.
func others(j api.Job) []api.Job {
	release, left, would, started := j, j, j, j
	release.Release++
	left.Left++
	would.Real++
	started.Started = !started.Started
	return []api.Job{release, left, would, started}
}

// P12.1: a second job with the same Deadline and another field takes the first
// one's place as well.
func TestPutAgainOtherFields(t *testing.T) {
	j := api.Job{Task: 3, Release: 4, Deadline: 9, Left: 2, Real: 5}
	for _, next := range others(j) {
		s := built(due(1, 9), j, due(4, 9))
		has(t, s, due(1, 9), j, due(4, 9))
		s.Put(next)
		has(t, s, due(1, 9), next, due(4, 9))
		s.Put(j)
		has(t, s, due(1, 9), j, due(4, 9))
	}
	s := built(j)
	s.Put(j)
	has(t, s, j)
	dropIs(t, s, 3, true)
	has(t, s)
}

// P12.1: the job's other fields do not make it another task's.
func TestOneOfEachTask(t *testing.T) {
	s := New()
	for i := range 9 {
		s.Put(api.Job{Task: 6, Release: i, Deadline: 9 - i, Left: i * i, Real: -i, Started: i%2 == 0})
	}
	has(t, s, api.Job{Task: 6, Release: 8, Deadline: 1, Left: 64, Real: -8, Started: true})
}

// P12.1: Get, First and List tell each field as it was put.
func TestEachField(t *testing.T) {
	for _, a := range ends {
		for _, b := range ends {
			for _, started := range []bool{false, true} {
				for _, j := range []api.Job{
					{Task: a, Release: b, Deadline: 5, Left: 6, Real: 7, Started: started},
					{Task: 1, Release: 2, Deadline: a, Left: b, Real: 7, Started: started},
					{Task: b, Release: 2, Deadline: 5, Left: 6, Real: a, Started: started},
					{Task: a, Release: a, Deadline: b, Left: b, Real: a, Started: started},
				} {
					s := built(j)
					has(t, s, j)
					s.Put(due(3, 4))
					s.Put(j)
					getIs(t, s, j.Task, j, true)
					dropIs(t, s, j.Task, true)
				}
			}
		}
	}
}

// P12.1: the job of a task is found by that task's number alone.
func TestGetOfOthers(t *testing.T) {
	s := built(due(2, 10), due(10, 20), due(-2, 30))
	for _, task := range append([]int{3, 20, 30, -10}, ends...) {
		noneOf(t, s, task)
	}
	has(t, s, due(2, 10), due(10, 20), due(-2, 30))
}

// P12.1: Drop tells whether the task had a job, and leaves all others.
func TestDrop(t *testing.T) {
	all := []api.Job{due(-1, 3), due(0, 3), due(5, 3), due(2, 4), due(6, 6)}
	for i, j := range all {
		s := built(all...)
		dropIs(t, s, 4, false)
		dropIs(t, s, 3, false)
		has(t, s, all...)
		rest := slices.Delete(slices.Clone(all), i, i+1)
		dropIs(t, s, j.Task, true)
		has(t, s, rest...)
		dropIs(t, s, j.Task, false)
		has(t, s, rest...)
		s.Put(j)
		has(t, s, all...)
		dropIs(t, s, j.Task, true)
		has(t, s, rest...)
	}
}

// P12.1: Drop of tasks with numbers at their ends.
func TestDropAtEnds(t *testing.T) {
	s, p := New(), &plain{}
	for _, task := range ends {
		puts(s, p, due(task, 0))
	}
	looks(t, s, p)
	for _, task := range ends {
		drops(t, s, p, task)
		looks(t, s, p)
		drops(t, s, p, task)
		looks(t, s, p)
	}
}

// P12.2: by their Deadlines, of one Deadline by their Tasks, with both at
// their ends and around 0: the Deadlines go round the tasks in every step.
func TestOrder(t *testing.T) {
	for step := range ends {
		for shift := range ends {
			s, p := New(), &plain{}
			for k, task := range ends {
				puts(s, p, due(task, ends[(k*step+shift)%len(ends)]))
				looks(t, s, p)
			}
			if len(p.list) != len(ends) {
				t.Fatalf("%d jobs", len(p.list))
			}
		}
	}
}

// P12.2: each pair of Deadlines and Tasks at their ends and around 0, put in
// both orders.
func TestOrderOfTwo(t *testing.T) {
	for i, a := range ends {
		for _, b := range ends[i+1:] {
			for k, x := range ends {
				for _, y := range ends[k+1:] {
					has(t, built(due(x, a), due(y, b)), due(x, a), due(y, b))
					has(t, built(due(y, a), due(x, b)), due(y, a), due(x, b))
					has(t, built(due(x, b), due(y, a)), due(y, a), due(x, b))
					has(t, built(due(y, a), due(x, a)), due(x, a), due(y, a))
					has(t, built(due(x, b), due(y, b)), due(x, b), due(y, b))
				}
			}
		}
	}
}

// P12.2: many jobs with one Deadline, whatever their other fields are.
func TestManyOfOneDeadline(t *testing.T) {
	r := rand.New(rand.NewPCG(12, 1))
	for _, deadline := range ends {
		var want []api.Job
		for task := -50; task < 50; task++ {
			want = append(want, api.Job{
				Task: task, Release: r.IntN(9), Deadline: deadline, Left: r.IntN(9) - 4, Real: r.IntN(9) - 4, Started: r.IntN(2) == 0,
			})
		}
		for range 3 {
			mixed := slices.Clone(want)
			r.Shuffle(len(mixed), func(i, k int) { mixed[i], mixed[k] = mixed[k], mixed[i] })
			has(t, built(mixed...), want...)
		}
	}
}

// P12.2: neither a job's Release, nor what is left of it, nor whether it has
// started, counts for the order.
func TestOrderOfOtherFields(t *testing.T) {
	for _, a := range ends {
		for _, b := range ends {
			for _, started := range []bool{false, true} {
				x := api.Job{Task: 1, Release: a, Deadline: 7, Left: b, Real: a, Started: started}
				y := api.Job{Task: 2, Release: b, Deadline: 7, Left: a, Real: b, Started: !started}
				z := api.Job{Task: 0, Release: b, Deadline: 8, Left: a, Real: b, Started: !started}
				has(t, built(z, y, x), x, y, z)
			}
		}
	}
}

// P12.2: First and Last, as the first and the last one come and go.
func TestFirstAndLast(t *testing.T) {
	s, p := New(), &plain{}
	for _, j := range []api.Job{due(3, 20), due(4, 30), due(2, 10), due(5, 25), due(1, 10), due(6, 30), due(2, 40), due(1, 35)} {
		puts(s, p, j)
		looks(t, s, p)
	}
	for n := 0; len(p.list) > 0; n++ {
		j := p.list[0]
		if n%2 == 0 {
			j = p.list[len(p.list)-1]
		}
		drops(t, s, p, j.Task)
		looks(t, s, p)
	}
	looks(t, s, p)
}

// P12.2: a Last that is 0 or below 0 with jobs there, and one of a single job.
func TestLastOfAny(t *testing.T) {
	for i, deadline := range ends {
		has(t, built(due(3, deadline)), due(3, deadline))
		for _, earlier := range ends[:i+1] {
			s := built(due(5, deadline), due(4, earlier))
			if s.Last() != deadline {
				t.Errorf("Last is %d, not %d", s.Last(), deadline)
			}
			dropIs(t, s, 5, true)
			if s.Last() != earlier {
				t.Errorf("Last is %d, not %d", s.Last(), earlier)
			}
			dropIs(t, s, 4, true)
			if s.Last() != 0 {
				t.Errorf("Last is %d without a job", s.Last())
			}
		}
	}
}

// P12.2: of several with the last Deadline, Last is the same whichever goes.
func TestLastOfSeveral(t *testing.T) {
	for _, task := range []int{1, 2, 3} {
		s := built(due(1, -7), due(2, -7), due(3, -7), due(4, -8))
		dropIs(t, s, task, true)
		if s.Last() != -7 {
			t.Errorf("Last is %d behind Drop(%d)", s.Last(), task)
		}
	}
}

// P12.3: of a nil *Set there is no job; Put does nothing.
func TestNil(t *testing.T) {
	var s *Set
	for range 2 {
		has(t, s)
		for _, task := range ends {
			noneOf(t, s, task)
			dropIs(t, s, task, false)
			s.Put(due(task, task))
			noneOf(t, s, task)
			dropIs(t, s, task, false)
			has(t, s)
		}
	}
	if len(s.List()) != 0 || s != nil {
		t.Error("a nil *Set has come to jobs")
	}
}

// P12.2, R4: a list that was told stays as it was when the set turns, and when
// another one is told and written into.
func TestToldListsStay(t *testing.T) {
	s := built(due(1, 10), due(2, 20), due(3, 30))
	told := s.List()
	was := slices.Clone(told)
	stays := func(what string) {
		t.Helper()
		if !slices.Equal(told, was) {
			t.Fatalf("behind %s the told list is %+v, not %+v", what, told, was)
		}
	}
	s.Put(api.Job{Task: 1, Deadline: 10, Left: 5, Started: true})
	stays("a job of the same Deadline")
	s.Put(due(2, 5))
	stays("an earlier job")
	s.Put(due(4, 1))
	stays("another task's job")
	dropIs(t, s, 3, true)
	stays("Drop")
	other := s.List()
	for i := range other {
		other[i] = due(9, 9)
	}
	stays("writing into another list")
	_ = append(told, due(8, 8))
	has(t, s, due(4, 1), due(2, 5), api.Job{Task: 1, Deadline: 10, Left: 5, Started: true})
	stays("all of it")
}

// P12.2, R4: writing into a list that was told, its spare room included,
// changes neither the set nor another list.
func TestWritingIntoLists(t *testing.T) {
	for n := range 20 {
		s, p := New(), &plain{}
		for i := range n {
			puts(s, p, due(i*7%n, i*5%n))
		}
		a, b := s.List(), s.List()
		for i := range a[:cap(a)] {
			a[:cap(a)][i] = due(-1, -1)
		}
		if !slices.Equal(b, p.list) {
			t.Fatalf("writing into one list has changed another one: %+v", b)
		}
		looks(t, s, p)
		// A job that stands in a list is the caller's own, as are Get's and First's.
		if j, ok := s.First(); ok {
			j.Deadline, j.Left, j.Started = 99, 99, true
			looks(t, s, p)
		}
	}
}

// R4: a job that was put stays as it was put, whatever becomes of the
// caller's.
func TestPutKeepsItsOwn(t *testing.T) {
	j := api.Job{Task: 1, Release: 2, Deadline: 3, Left: 4, Real: 5}
	was := j
	s := built(j)
	if j != was {
		t.Errorf("Put has changed the job: %+v", j)
	}
	j.Deadline, j.Left, j.Started = 9, 9, true
	has(t, s, was)
}

// P12.1, P12.2: what is promoted from the heap looks at the same jobs.
func TestPromoted(t *testing.T) {
	s := built(due(4, 9), due(2, 9), due(1, 30), due(1, 20))
	if s.Len() != 3 {
		t.Errorf("Len is %d", s.Len())
	}
	if task, deadline, ok := s.Top(); task != 2 || deadline != 9 || !ok {
		t.Errorf("Top is %d, %d, %v", task, deadline, ok)
	}
	if deadline, ok := s.Key(1); deadline != 20 || !ok {
		t.Errorf("Key(1) is %d, %v", deadline, ok)
	}
	dropIs(t, s, 2, true)
	if task, deadline, ok := s.Top(); s.Len() != 2 || task != 4 || deadline != 9 || !ok {
		t.Errorf("Top is %d, %d, %v of %d", task, deadline, ok, s.Len())
	}
}

// randomJob is a job of one of a few tasks, or of any.
func randomJob(r *rand.Rand, tasks, deadlines int) api.Job {
	j := api.Job{
		Task: r.IntN(tasks) - tasks/2, Release: r.IntN(99), Deadline: r.IntN(deadlines) - deadlines/2,
		Left: r.IntN(9) - 4, Real: r.IntN(9) - 4, Started: r.IntN(2) == 0,
	}
	if r.IntN(9) == 0 {
		j.Task = ends[r.IntN(len(ends))]
	}
	if r.IntN(9) == 0 {
		j.Deadline = ends[r.IntN(len(ends))]
	}
	return j
}

// randomDrop is a task's number: the first one's, the last one's, that of one
// between them, or any.
func randomDrop(r *rand.Rand, p *plain, tasks int) (int, string) {
	if n := len(p.list); n > 0 {
		switch r.IntN(4) {
		case 0:
			return p.list[0].Task, "drop first"
		case 1:
			return p.list[n-1].Task, "drop last"
		case 2:
			return p.list[r.IntN(n)].Task, "drop one"
		}
	}
	return r.IntN(tasks) - tasks/2, "drop any"
}

// run does many calls on a new set and a plain list that is kept in order,
// and holds one against the other behind each of them. It counts what it saw,
// and answers all that List told.
func run(t *testing.T, r *rand.Rand, seen map[string]int, steps int) [][]api.Job {
	t.Helper()
	tasks, deadlines, puttings := 1+r.IntN(40), 1+r.IntN(30), 1+r.IntN(9)
	s, p := New(), &plain{}
	var told [][]api.Job
	for range steps {
		if r.IntN(10) < puttings {
			j := randomJob(r, tasks, deadlines)
			old, there := p.get(j.Task)
			seen[kindOfPut(old, there, j)]++
			puts(s, p, j)
		} else {
			task, what := randomDrop(r, p, tasks)
			_, there := p.get(task)
			seen[fmt.Sprint(what, " ", there)]++
			drops(t, s, p, task)
		}
		looks(t, s, p)
		task := r.IntN(tasks) - tasks/2
		want, wantOK := p.get(task)
		getIs(t, s, task, want, wantOK)
		seen[fmt.Sprint("get ", wantOK)]++
		told = append(told, s.List())
		seen[size(len(p.list))]++
	}
	return told
}

// kindOfPut is what Put of j does to a task's job of old, if it has one.
func kindOfPut(old api.Job, there bool, j api.Job) string {
	switch {
	case !there:
		return "put"
	case j.Deadline < old.Deadline:
		return "put earlier"
	case j.Deadline > old.Deadline:
		return "put later"
	}
	return "put same"
}

// size names how many jobs there are.
func size(n int) string {
	switch {
	case n < 2:
		return fmt.Sprint(n, " jobs")
	case n < 10:
		return "some jobs"
	}
	return "many jobs"
}

// P12.1, P12.2: long runs of many calls against a plain list that is kept in
// order. R5: done again, the same calls have the same answers.
func TestMany(t *testing.T) {
	seen := map[string]int{}
	for n := range uint64(150) {
		told := run(t, rand.New(rand.NewPCG(12, 100+n)), seen, 200)
		again := run(t, rand.New(rand.NewPCG(12, 100+n)), map[string]int{}, 200)
		if !slices.EqualFunc(told, again, slices.Equal[[]api.Job]) {
			t.Fatalf("run %d has other answers when it is done again", n)
		}
	}
	for _, kind := range []string{
		"put", "put earlier", "put later", "put same",
		"drop first true", "drop last true", "drop one true", "drop any true", "drop any false",
		"get true", "get false", "0 jobs", "1 jobs", "some jobs", "many jobs",
	} {
		if seen[kind] < 100 {
			t.Errorf("only %d of %q", seen[kind], kind)
		}
	}
}

// P12.1, P12.2: one long run over a set of thousands of jobs, looked at now
// and then.
func TestLongRun(t *testing.T) {
	r := rand.New(rand.NewPCG(12, 2))
	s, p := New(), &plain{}
	for step := range 12000 {
		if r.IntN(5) < 4 {
			puts(s, p, randomJob(r, 6000, 1000))
		} else {
			task, _ := randomDrop(r, p, 6000)
			drops(t, s, p, task)
		}
		want, wantOK := p.first()
		if got, ok := s.First(); got != want || ok != wantOK {
			t.Fatalf("First is %+v, %v, not %+v, %v", got, ok, want, wantOK)
		}
		if step%1000 == 0 {
			listIs(t, s, p.list)
			if s.Last() != p.last() {
				t.Fatalf("Last is %d, not %d", s.Last(), p.last())
			}
		}
	}
	looks(t, s, p)
	for len(p.list) > 0 {
		want, _ := p.first()
		if got, ok := s.First(); got != want || !ok {
			t.Fatalf("First is %+v, %v, not %+v", got, ok, want)
		}
		drops(t, s, p, want.Task)
	}
	has(t, s)
}
