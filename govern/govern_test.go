package govern

import (
	"fmt"
	"math"
	"math/rand/v2"
	"reflect"
	"slices"
	"testing"

	"dormouse/api"
	"dormouse/table"
)

// maxLeft is the greatest left of which the chapter speaks.
const maxLeft = 1 << 13

// question is what Choose is asked.
type question struct {
	p                                  api.Platform
	policy, static, left, slack, level int
}

// machine is one with levels of these Ps, of which Crit is the last one.
func machine(switching int, paces ...int) api.Platform {
	p := api.Platform{Crit: len(paces) - 1, Switch: switching, Horizon: api.MaxHorizon}
	for _, pace := range paces {
		p.Levels = append(p.Levels, api.Level{P: pace})
	}
	return p
}

// upTo is the machine with another Crit.
func upTo(p api.Platform, crit int) api.Platform {
	p.Crit = crit
	return p
}

// quanta are so many of them, in parts.
func quanta(n int) int { return n * api.One }

// roomy is a copy of a list, with spare room that is not empty.
func roomy[T any](list []T, filler T) []T {
	if list == nil {
		return nil
	}
	more := append(slices.Clone(list), filler, filler)
	return more[:len(list)]
}

// roomyMachine is a copy whose lists have spare room. What stands there would
// change the answers, if it were looked at.
func roomyMachine(p api.Platform) api.Platform {
	p.Levels = roomy(p.Levels, p.Levels[len(p.Levels)-1])
	p.Sleeps = roomy(p.Sleeps, api.Sleep{Even: 77})
	p.Devices = roomy(p.Devices, api.Device{Even: 78})
	return p
}

// whole is a copy of a list with its spare room.
func whole[T any](list []T) []T { return slices.Clone(list[:cap(list)]) }

// wholeMachine is a copy, the spare room of all lists with it.
func wholeMachine(p api.Platform) api.Platform {
	p.Levels, p.Sleeps, p.Devices = whole(p.Levels), whole(p.Sleeps), whole(p.Devices)
	return p
}

// lengths are those of all lists.
func lengths(p api.Platform) []int {
	return []int{len(p.Levels), len(p.Sleeps), len(p.Devices)}
}

// chosenIs holds the answer of Choose against what is wanted, twice, and the
// machine against what it was.
func chosenIs(t *testing.T, name string, q question, want int) {
	t.Helper()
	if table.Check(q.p) != api.OK || q.left < 0 || q.left > maxLeft {
		t.Fatalf("%s: the chapter does not speak of it: %+v", name, q)
	}
	p := roomyMachine(q.p)
	wasWhole, wasLengths := wholeMachine(p), lengths(p)
	for range 2 {
		if got := Choose(p, q.policy, q.static, q.left, q.slack, q.level); got != want {
			t.Fatalf("%s: Choose of %+v is %d, not %d", name, q, got, want)
		}
		if !reflect.DeepEqual(wholeMachine(p), wasWhole) || !slices.Equal(lengths(p), wasLengths) {
			t.Fatalf("%s: Choose of %+v has changed the machine: %+v", name, q, p)
		}
	}
}

// plainSlowest is P16.1 sentence by sentence.
func plainSlowest(q question) int {
	if q.policy == api.Static || q.policy == api.Saving {
		if q.static < 0 {
			return 0
		}
		if q.static > q.p.Crit {
			return q.p.Crit
		}
		return q.static
	}
	if q.policy == api.Lazy {
		return q.p.Crit
	}
	return 0
}

// plainAsks is how much time, in parts, P16.2 asks for at a level.
func plainAsks(q question, number int) int {
	more := q.left * (q.p.Levels[number].P - q.p.Levels[0].P)
	if q.level != number {
		more += q.p.Switch
	}
	return more * api.One
}

// plain is P16.2 sentence by sentence.
func plain(q question) int {
	chosen := 0
	for number := 1; number <= plainSlowest(q); number++ {
		if plainAsks(q, number) <= q.slack {
			chosen = number
		}
	}
	return chosen
}

// plainIs holds Choose against the promises' sentences.
func plainIs(t *testing.T, name string, q question) {
	t.Helper()
	chosenIs(t, name, q, plain(q))
}

// ends are the ends of an int, and what is just beside them.
var ends = []int{math.MinInt, math.MinInt + 1, math.MaxInt - 1, math.MaxInt}

// others are numbers of no policy.
var others = []int{math.MinInt, math.MinInt + 1, -9, -2, -1, 4, 5, 7, 99, math.MaxInt - 1, math.MaxInt}

// P16.1, P16.2: the chapter's first example, whatever else is asked.
func TestExampleFull(t *testing.T) {
	for _, p := range []api.Platform{machine(0, 1), machine(0, 1, 2), machine(3, 1, 2, 3, 4)} {
		for _, static := range []int{-1, 0, 1, 3, math.MaxInt} {
			for _, level := range []int{0, 1, 2, 3} {
				q := question{p, api.Full, static, 0, math.MaxInt, level}
				chosenIs(t, "example 1", q, 0)
				q.left = 3
				chosenIs(t, "example 1", q, 0)
			}
		}
	}
}

// P16.2: the chapter's second example, at any level, as nothing is asked for
// a switch.
func TestExampleLazy(t *testing.T) {
	for _, level := range []int{-1, 0, 1, 2} {
		q := question{machine(0, 1, 2), api.Lazy, 0, 3, 0, level}
		for slack, want := range map[int]int{
			0: 0, quanta(2): 0, quanta(3) - 1: 0, quanta(3): 1, quanta(3) + 1: 1, quanta(4): 1, math.MaxInt: 1, -1: 0,
		} {
			q.slack = slack
			chosenIs(t, "example 2", q, want)
		}
	}
}

// P16.1: Static and Saving let static be, between 0 and Crit.
func TestStatic(t *testing.T) {
	for _, policy := range []int{api.Static, api.Saving} {
		q := question{p: machine(2, 1, 3, 7, 8), policy: policy, left: 3, slack: quanta(100)}
		for static, want := range map[int]int{
			math.MinInt: 0, math.MinInt + 1: 0, -9: 0, -1: 0, 0: 0, 1: 1, 2: 2, 3: 3, 4: 3, 5: 3, 99: 3,
			math.MaxInt - 1: 3, math.MaxInt: 3,
		} {
			q.static = static
			chosenIs(t, "between", q, want)
		}
	}
}

// P16.1: Lazy lets Crit be, and Full the first level alone, whatever static
// is.
func TestLazyAndFull(t *testing.T) {
	q := question{p: machine(2, 1, 3, 7, 8), left: 3, slack: quanta(100)}
	for _, static := range append([]int{-9, -1, 0, 1, 2, 3, 4, 99}, ends...) {
		q.static, q.policy = static, api.Lazy
		chosenIs(t, "lazy", q, 3)
		q.policy = api.Full
		chosenIs(t, "full", q, 0)
	}
}

// P16.1: what is no policy lets the first level be alone, as Full does.
func TestNoPolicy(t *testing.T) {
	for _, policy := range others {
		for _, static := range append([]int{-1, 0, 1, 2, 3}, ends...) {
			for level := range 3 {
				q := question{machine(0, 1, 2, 4), policy, static, 2, math.MaxInt, level}
				chosenIs(t, "no policy", q, 0)
				q.left, q.slack = 0, 0
				chosenIs(t, "no policy", q, 0)
			}
		}
	}
}

// P16.1: a level above Crit is never chosen, be there all time of the world,
// and the CPU at it now.
func TestCrit(t *testing.T) {
	all := machine(5, 1, 2, 200, api.MaxLatency)
	for crit := range len(all.Levels) {
		for _, policy := range []int{api.Static, api.Lazy, api.Saving} {
			for _, level := range []int{0, 1, 2, 3} {
				q := question{upTo(all, crit), policy, math.MaxInt, maxLeft, math.MaxInt, level}
				chosenIs(t, "crit", q, crit)
				q.left, q.slack = 0, quanta(5)
				chosenIs(t, "crit, nothing left", q, crit)
				q.static = crit + 1
				chosenIs(t, "one above crit", q, crit)
				q.static = crit
				chosenIs(t, "at crit", q, crit)
			}
		}
	}
}

// P16.2: a machine may have one level, and as many as there may be.
func TestLevels(t *testing.T) {
	paces := []int{3, 4, 6, 9}
	for levels := 1; levels <= api.MaxLevels; levels++ {
		p := machine(1, paces[:levels]...)
		for _, policy := range []int{api.Static, api.Lazy, api.Saving} {
			q := question{p, policy, levels, 10, quanta(1000), 0}
			chosenIs(t, "levels", q, levels-1)
			// Nothing is asked for the first level: it needs no time.
			q.slack = math.MinInt
			chosenIs(t, "no time", q, 0)
		}
	}
}

// P16.2: Switch is asked at each level but the one of the CPU, whatever
// number that has.
func TestSwitch(t *testing.T) {
	// 10 cycles more take 10 quanta at level 1, and 30 at level 2.
	p := machine(7, 1, 2, 4)
	elsewhere := append([]int{-9, -1, 0, 3, 4, 99}, ends...)
	for _, level := range elsewhere {
		for slack, want := range map[int]int{16: 0, 17: 1, 18: 1, 36: 1, 37: 2, 38: 2} {
			chosenIs(t, "elsewhere", question{p, api.Lazy, 0, 10, quanta(slack), level}, want)
		}
	}
	for slack, want := range map[int]int{9: 0, 10: 1, 16: 1, 17: 1, 36: 1, 37: 2} {
		chosenIs(t, "at level 1", question{p, api.Lazy, 0, 10, quanta(slack), 1}, want)
	}
	for slack, want := range map[int]int{16: 0, 17: 1, 29: 1, 30: 2, 37: 2} {
		chosenIs(t, "at level 2", question{p, api.Lazy, 0, 10, quanta(slack), 2}, want)
	}
	// At the first level no switch is asked, at others one is: without time
	// for it the first level is chosen all the same.
	chosenIs(t, "to the first level", question{p, api.Lazy, 0, 10, quanta(6), 2}, 0)
	chosenIs(t, "to the first level", question{p, api.Full, 0, 10, quanta(-9), 2}, 0)
}

// P16.2: there is time up to the last part.
func TestParts(t *testing.T) {
	for _, switching := range []int{0, 1, 5, api.MaxLatency} {
		p := machine(switching, 2, 5)
		for _, left := range []int{0, 1, 7, api.MaxCycles, maxLeft - 1, maxLeft} {
			for _, level := range []int{0, 1, 2} {
				asks := 3 * left
				if level != 1 {
					asks += switching
				}
				q := question{p, api.Lazy, 0, left, quanta(asks), level}
				chosenIs(t, "just enough", q, 1)
				q.slack++
				chosenIs(t, "a part more", q, 1)
				q.slack -= 2
				chosenIs(t, "a part too few", q, 0)
			}
		}
	}
}

// P16.2: slack may be below 0, and at both ends of an int.
func TestSlack(t *testing.T) {
	for slack, want := range map[int]int{
		math.MinInt: 0, math.MinInt + 1: 0, quanta(-1): 0, -1: 0, 0: 0, 1: 0, math.MaxInt - 1: 2, math.MaxInt: 2,
	} {
		for _, level := range []int{0, 1, 2} {
			q := question{machine(1, 1, 2, 3), api.Lazy, 0, 1, slack, level}
			chosenIs(t, "slack", q, want)
			q.left = maxLeft
			chosenIs(t, "slack, much left", q, want)
		}
	}
}

// P16.2: with nothing left just Switch is asked, and nothing at level itself.
func TestNothingLeft(t *testing.T) {
	for _, switching := range []int{1, 9, api.MaxLatency} {
		q := question{p: machine(switching, 1, 2, api.MaxLatency), policy: api.Lazy}
		for level, want := range map[int]int{-1: 0, 0: 0, 1: 1, 2: 2, 3: 0} {
			q.level, q.slack = level, 0
			chosenIs(t, "no time", q, want)
			q.slack = quanta(switching) - 1
			chosenIs(t, "a part too few", q, want)
			q.slack = quanta(switching)
			chosenIs(t, "a switch", q, 2)
			q.slack = -1
			chosenIs(t, "below 0", q, 0)
		}
	}
	q := question{p: machine(0, 1, 2, 3), policy: api.Lazy}
	chosenIs(t, "a switch of no time", q, 2)
	q.slack = -1
	chosenIs(t, "a switch of no time, below 0", q, 0)
}

// P16.2: the numbers may be as great as the chapter lets them be, and as
// small.
func TestGreatest(t *testing.T) {
	p := machine(api.MaxLatency, 1, api.MaxLatency)
	most := maxLeft*(api.MaxLatency-1) + api.MaxLatency
	for _, row := range []struct{ slack, level, want int }{
		{quanta(most) - 1, 0, 0}, {quanta(most), 0, 1},
		{quanta(most - api.MaxLatency), 0, 0}, {quanta(most-api.MaxLatency) - 1, 1, 0}, {quanta(most - api.MaxLatency), 1, 1},
	} {
		chosenIs(t, "greatest", question{p, api.Lazy, 0, maxLeft, row.slack, row.level}, row.want)
	}
	p = machine(0, api.MaxLatency-1, api.MaxLatency)
	for left, want := range map[int]int{0: 1, 1: 1, 2: 0, maxLeft: 0} {
		chosenIs(t, "slow levels", question{p, api.Lazy, 0, left, quanta(1), 0}, want)
	}
	p = machine(0, 1, 2)
	for left, want := range map[int]int{0: 1, 1: 1, 2: 0, maxLeft: 0} {
		chosenIs(t, "fast levels", question{p, api.Lazy, 0, left, quanta(1), 0}, want)
	}
}

// P16.2: the greatest number counts, also where there is no time for a
// smaller one: that one asks for a switch.
func TestGreaterHasTime(t *testing.T) {
	p := machine(50, 1, 2, 3, 4)
	for _, row := range []struct{ slack, level, want int }{
		// At level 3: it asks for 30, level 2 for 70, level 1 for 60.
		{29, 3, 0}, {30, 3, 3}, {59, 3, 3}, {60, 3, 3}, {70, 3, 3}, {80, 3, 3},
		// At level 2: it asks for 20, level 1 for 60, level 3 for 80.
		{19, 2, 0}, {20, 2, 2}, {59, 2, 2}, {60, 2, 2}, {79, 2, 2}, {80, 2, 3},
		// At level 1: it asks for 10, level 2 for 70, level 3 for 80.
		{9, 1, 0}, {10, 1, 1}, {69, 1, 1}, {70, 1, 2}, {79, 1, 2}, {80, 1, 3},
	} {
		chosenIs(t, "greater", question{p, api.Lazy, 0, 10, quanta(row.slack), row.level}, row.want)
	}
	// What is above the slowest level is not chosen, though it alone has time.
	for static, want := range map[int]int{0: 0, 1: 0, 2: 0, 3: 3} {
		chosenIs(t, "not let be", question{p, api.Static, static, 10, quanta(30), 3}, want)
	}
}

// P16.1, P16.2: nothing but P, Crit and Switch of a machine counts.
func TestOtherNumbers(t *testing.T) {
	p := machine(1, 1, 2, 3)
	p.Levels[0].E, p.Levels[1].E, p.Levels[2].E = 900, 800, 700
	p.Idle, p.SwitchE, p.Sems, p.Horizon = 5, api.MaxPower, 3, 1
	p.Sleeps = []api.Sleep{{Even: 9}, {Even: 12}}
	p.Devices = []api.Device{{On: 8, Even: 3}}
	for slack := range 30 {
		for level := range 4 {
			q := question{p, api.Lazy, 0, 10, quanta(slack), level}
			chosenIs(t, "other numbers", q, plain(question{machine(1, 1, 2, 3), api.Lazy, 0, 10, quanta(slack), level}))
		}
	}
}

// R4, R5: nothing is kept: what the caller writes into its list counts from
// then on.
func TestNothingKept(t *testing.T) {
	q := question{machine(1, 1, 2, 4), api.Lazy, 0, 10, quanta(25), 0}
	chosenIs(t, "at first", q, 1)
	q.p.Levels[2].P = 3
	chosenIs(t, "another P", q, 2)
	q.p.Levels[0].P = 0
	if got := Choose(q.p, q.policy, q.static, q.left, q.slack, q.level); got != 1 {
		t.Fatalf("another first P: %d, not 1", got)
	}
}

// P16.1, P16.2: all small numbers, on a machine with each Crit and Switch.
func TestEverySmall(t *testing.T) {
	for crit := range 3 {
		for switching := range 3 {
			p := upTo(machine(switching, 1, 2, 4), crit)
			for policy := -1; policy <= 4; policy++ {
				for static := -1; static <= 3; static++ {
					everySmall(t, question{p: p, policy: policy, static: static})
				}
			}
		}
	}
}

// everySmall asks for all small numbers of the rest.
func everySmall(t *testing.T, q question) {
	t.Helper()
	for q.left = range 4 {
		for q.level = -1; q.level <= 3; q.level++ {
			for slack := -1; slack <= 12; slack++ {
				q.slack = quanta(slack)
				plainIs(t, fmt.Sprintf("small, slack %d", slack), q)
			}
		}
	}
}

// R1, R7: a call ends without a panic also where nothing is promised of it.
func TestBeyondTheBracket(t *testing.T) {
	machines := []api.Platform{{}, {Crit: 1}, machine(1, 5, 4, 3), machine(-9, 0, 0), machine(math.MaxInt, 1, math.MaxInt)}
	for _, crit := range append([]int{-1, 2, 9}, ends...) {
		machines = append(machines, upTo(machine(1, 1, 2), crit), upTo(api.Platform{}, crit))
	}
	numbers := append([]int{-1, 0, 1, 2, 9, 1 << 40}, ends...)
	for _, p := range machines {
		for policy := -1; policy <= 4; policy++ {
			for _, x := range numbers {
				for _, y := range numbers {
					Choose(p, policy, x, y, y, x)
					Choose(p, policy, x, x, y, y)
				}
			}
		}
	}
}

// drawMachine is a machine that may be.
func drawMachine(r *rand.Rand) api.Platform {
	step := []int{1, 3, 60}[r.IntN(3)]
	p := machine(0, 1+r.IntN(4))
	for range r.IntN(api.MaxLevels) {
		p.Levels = append(p.Levels, api.Level{P: p.Levels[len(p.Levels)-1].P + 1 + r.IntN(step)})
	}
	p.Crit = len(p.Levels) - 1
	if r.IntN(3) == 0 {
		p.Crit = r.IntN(len(p.Levels))
	}
	if r.IntN(3) > 0 {
		p.Switch = r.IntN(1 + []int{4, 40, api.MaxLatency}[r.IntN(3)])
	}
	return p
}

// drawNumber is one of few, or, now and then, any number at all.
func drawNumber(r *rand.Rand, from, to int) int {
	if r.IntN(16) == 0 {
		return int(r.Uint64())
	}
	return from + r.IntN(to-from+1)
}

// draw is a question at random: mostly its slack lies around what a level
// asks.
func draw(r *rand.Rand) question {
	q := question{p: drawMachine(r)}
	q.policy, q.static, q.level = drawNumber(r, -1, 4), drawNumber(r, -1, 4), drawNumber(r, -1, 4)
	if r.IntN(2) == 0 {
		q.policy = api.Lazy
	}
	q.left = r.IntN(1 + []int{3, 50, maxLeft}[r.IntN(3)])
	q.slack = plainAsks(q, r.IntN(len(q.p.Levels))) + []int{-1, 0, 1, api.One}[r.IntN(4)]
	if r.IntN(8) == 0 {
		q.slack = int(r.Uint64())
	}
	return q
}

// P16.1, P16.2: many questions, against the promises' sentences one by one.
func TestMany(t *testing.T) {
	r := rand.New(rand.NewPCG(16, 1))
	chosen, skipped, lessThanLet := [api.MaxLevels]int{}, 0, 0
	for range 100000 {
		q := draw(r)
		plainIs(t, "drawn", q)
		want := plain(q)
		chosen[want]++
		if want < plainSlowest(q) {
			lessThanLet++
		}
		if want > 1 && plainAsks(q, want-1) > q.slack {
			skipped++
		}
	}
	if slices.Min(chosen[:]) < 1000 || skipped < 500 || lessThanLet < 1000 {
		t.Fatalf("too few of a kind: %v chosen, %d with time where a smaller one has none, %d less than is let be", chosen, skipped, lessThanLet)
	}
}
