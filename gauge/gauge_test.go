package gauge

import (
	"fmt"
	"math"
	"math/big"
	"math/rand/v2"
	"reflect"
	"slices"
	"testing"

	"dormouse/api"
	"dormouse/kern"
	"dormouse/table"
)

// most is the greatest number of cycles, and the latest end, of which the
// chapter speaks.
const most = 1 << 30

// kinds are all kinds of intervals.
var kinds = []int{api.Run, api.Idle, api.Switch, api.Enter, api.Asleep, api.Exit}

// noKinds are numbers that are no kind, such as are one in fewer bits among
// them.
var noKinds = []int{
	math.MinInt, math.MinInt + 1, -1 << 32, -3, -2, -1, 0, 7, 8, 1<<8 + 1, 1<<16 + 3, 1<<32 + 1, 1<<32 + 3,
	math.MaxInt - 1, math.MaxInt,
}

// ends are numbers at the ends of int and between them.
var ends = []int{
	math.MinInt, math.MinInt + 1, -1 << 40, -most, -7, -1, 0, 1, 7, most, most + 1, 1 << 40, math.MaxInt - 1, math.MaxInt,
}

// one is a machine with one level.
func one(pace, energy, idle int) api.Platform {
	return api.Platform{Levels: []api.Level{{P: pace, E: energy}}, Idle: idle, Horizon: 1}
}

// large is a machine that may be, with all that machines have, whose levels
// but the first one take and cost more than it.
func large(pace, energy, idle int) api.Platform {
	p := api.Platform{
		Idle: idle, Switch: 7, SwitchE: 901, Sems: 3, Horizon: 1000,
		Sleeps: []api.Sleep{
			{Even: 1}, {Power: idle / 2, Enter: 2, Exit: 3, EnterE: idle, ExitE: idle, Even: 9}, {Even: 50},
		},
		Devices: []api.Device{{On: 5, Off: 1, Even: 2}, {Even: 1}, {On: 77, Down: 1, Up: 2, DownE: 5, UpE: 9, Even: 30}},
	}
	for n := range api.MaxLevels {
		p.Levels = append(p.Levels, api.Level{P: pace + n, E: min(energy+n, api.MaxPower)})
	}
	return p
}

// roomy is a copy of a list, with spare room that is not empty.
func roomy[T any](list []T, filler T) []T {
	if list == nil {
		return nil
	}
	more := append(slices.Clone(list), filler, filler)
	return more[:len(list)]
}

// roomyMachine is a copy whose lists have spare room.
func roomyMachine(p api.Platform) api.Platform {
	p.Levels = roomy(p.Levels, api.Level{P: 1, E: 1})
	p.Sleeps = roomy(p.Sleeps, api.Sleep{Even: 77})
	p.Devices = roomy(p.Devices, api.Device{Even: 78})
	return p
}

// whole is a copy of a list with its spare room.
func whole[T any](list []T) []T { return slices.Clone(list[:cap(list)]) }

// wholeMachine is a copy, the spare room of its lists with it.
func wholeMachine(p api.Platform) api.Platform {
	p.Levels, p.Sleeps, p.Devices = whole(p.Levels), whole(p.Sleeps), whole(p.Devices)
	return p
}

// boundIs holds the answer of Bound against what is wanted, twice, and the
// machine against what it was.
func boundIs(t *testing.T, name string, p api.Platform, cycles, end, want int) {
	t.Helper()
	if table.Check(p) != api.OK || min(cycles, end) < 0 || max(cycles, end) > most {
		t.Fatalf("%s: the chapter does not speak of %+v, %d, %d", name, p, cycles, end)
	}
	p = roomyMachine(p)
	was, lengths := wholeMachine(p), []int{len(p.Levels), len(p.Sleeps), len(p.Devices)}
	for range 2 {
		if got := Bound(p, cycles, end); got != want {
			t.Fatalf("%s: Bound(%+v, %d, %d) is %d, not %d", name, p, cycles, end, got, want)
		}
		same := slices.Equal(lengths, []int{len(p.Levels), len(p.Sleeps), len(p.Devices)})
		if !same || !reflect.DeepEqual(was, wholeMachine(p)) {
			t.Fatalf("%s: Bound has changed its machine: %+v", name, p)
		}
	}
}

// plainBound is P21.1 sentence by sentence, in numbers without bounds.
func plainBound(p api.Platform, cycles, end int) int {
	number := func(n int) *big.Int { return big.NewInt(int64(n)) }
	times := func(a, b *big.Int) *big.Int { return new(big.Int).Mul(a, b) }
	first := p.Levels[0]
	cost := times(number(cycles), number(first.E))
	rest := new(big.Int).Sub(number(end), times(number(cycles), number(first.P)))
	if rest.Sign() > 0 {
		cost.Add(cost, times(rest, number(p.Idle)))
	}
	return int(cost.Int64())
}

// plainIs holds Bound against the promise's sentence.
func plainIs(t *testing.T, name string, p api.Platform, cycles, end int) {
	t.Helper()
	boundIs(t, name, p, cycles, end, plainBound(p, cycles, end))
}

// listIs holds the answers of Cycles and Switches against what is wanted,
// twice, and the list against what it was.
func listIs(t *testing.T, name string, list []api.Interval, cycles, switches int) {
	t.Helper()
	for _, i := range list {
		if i.Cycles < 0 || i.Cycles > most {
			t.Fatalf("%s: the chapter does not speak of %+v", name, i)
		}
	}
	for _, filler := range []int{api.Run, api.Switch} {
		list := roomy(list, api.Interval{Kind: filler, Cycles: 9001})
		was := whole(list)
		for range 2 {
			if got := Cycles(list); got != cycles {
				t.Fatalf("%s: Cycles(%+v) is %d, not %d", name, list, got, cycles)
			}
			if got := Switches(list); got != switches {
				t.Fatalf("%s: Switches(%+v) is %d, not %d", name, list, got, switches)
			}
			if !slices.Equal(was, whole(list)) {
				t.Fatalf("%s: the list is changed: %+v", name, list)
			}
		}
	}
}

// P21.1: the chapter's example: no cycles cost end times Idle.
func TestNoCycles(t *testing.T) {
	for _, idle := range []int{0, 1, 3, api.MaxPower - 1, api.MaxPower} {
		for _, end := range []int{0, 1, 2, 1000, most - 1, most} {
			boundIs(t, "no cycles", one(1, 0, idle), 0, end, end*idle)
			boundIs(t, "no cycles", one(1, 5, idle), 0, end, end*idle)
			boundIs(t, "no cycles", one(api.MaxLatency, api.MaxPower, idle), 0, end, end*idle)
			boundIs(t, "no cycles", large(2, 5, idle), 0, end, end*idle)
		}
	}
}

// P21.1: up to moment 0 nothing is idle, and each cycle costs E.
func TestEndZero(t *testing.T) {
	for _, energy := range []int{0, 1, 5, api.MaxPower - 1, api.MaxPower} {
		for _, cycles := range []int{0, 1, 2, 1000, most - 1, most} {
			for _, idle := range []int{0, 1, api.MaxPower} {
				boundIs(t, "end 0", one(1, energy, idle), cycles, 0, cycles*energy)
				boundIs(t, "end 0", one(api.MaxLatency, energy, idle), cycles, 0, cycles*energy)
				boundIs(t, "end 0", large(3, energy, idle), cycles, 0, cycles*energy)
			}
		}
	}
}

// P21.1: by hand: cycles at E each, and what is left of end at Idle.
func TestByHand(t *testing.T) {
	for _, row := range []struct{ pace, energy, idle, cycles, end, want int }{
		{2, 5, 3, 2, 10, 28}, {2, 5, 3, 9, 10, 45},
		{1, 1, 1, 1, 1, 1}, {1, 1, 1, 1, 2, 2}, {1, 7, 2, 3, 10, 35}, {3, 7, 2, 3, 10, 23}, {4, 7, 2, 3, 10, 21},
		{1, 0, 0, 5, 9, 0}, {1, 0, 4, 5, 9, 16}, {1, 6, 0, 5, 9, 30}, {256, 100, 10, 3, 1000, 2620},
	} {
		boundIs(t, "by hand", one(row.pace, row.energy, row.idle), row.cycles, row.end, row.want)
		if row.pace+api.MaxLevels <= api.MaxLatency {
			boundIs(t, "by hand", large(row.pace, row.energy, row.idle), row.cycles, row.end, row.want)
		}
	}
}

// P21.1: an end ahead of what the cycles take, at it, and behind it: from it
// on each quantum costs Idle, and up to it none.
func TestAroundWhatTheCyclesTake(t *testing.T) {
	for _, pace := range []int{1, 2, 3, 7, 100, api.MaxLatency - 3} {
		for _, idle := range []int{0, 1, 6, api.MaxPower} {
			for _, energy := range []int{0, 9, api.MaxPower} {
				for _, cycles := range []int{1, 2, 50, 1 << 20} {
					take := cycles * pace
					for _, p := range []api.Platform{one(pace, energy, idle), large(pace, energy, idle)} {
						boundIs(t, "at the beginning", p, cycles, 0, cycles*energy)
						boundIs(t, "half of it", p, cycles, take/2, cycles*energy)
						boundIs(t, "one less", p, cycles, take-1, cycles*energy)
						boundIs(t, "just it", p, cycles, take, cycles*energy)
						boundIs(t, "one more", p, cycles, take+1, cycles*energy+idle)
						boundIs(t, "two more", p, cycles, take+2, cycles*energy+2*idle)
						boundIs(t, "far more", p, cycles, most, cycles*energy+(most-take)*idle)
					}
				}
			}
		}
	}
}

// P21.1: cycles and end at 0 and at the greatest of which the chapter speaks,
// on machines whose numbers are the least and the greatest.
func TestAtTheEnds(t *testing.T) {
	for _, pace := range []int{1, 2, api.MaxLatency - 3} {
		for _, energy := range []int{0, 1, api.MaxPower} {
			for _, idle := range []int{0, 1, api.MaxPower} {
				for _, p := range []api.Platform{one(pace, energy, idle), large(pace, energy, idle)} {
					boundIs(t, "nothing", p, 0, 0, 0)
					boundIs(t, "cycles alone", p, most, 0, energy<<30)
					boundIs(t, "end alone", p, 0, most, idle<<30)
					boundIs(t, "both", p, most, most, energy<<30)
					plainIs(t, "one less", p, most-1, most)
					plainIs(t, "one less", p, most, most-1)
				}
			}
		}
	}
	p := one(api.MaxLatency, api.MaxPower, api.MaxPower)
	boundIs(t, "the greatest of all", p, most, most, 1<<46)
	boundIs(t, "the greatest of all", p, 1<<22, most, 1<<38)
	boundIs(t, "the greatest of all", p, 1<<22-1, most, (1<<22-1)<<16+256<<16)
	boundIs(t, "the greatest of all", one(1, api.MaxPower, api.MaxPower), 1<<29, most, 1<<46)
}

// P21.1: levels but the first one do not count, be there none or three.
func TestFirstLevelAlone(t *testing.T) {
	others := []api.Level{{P: 5, E: 9}, {P: 6, E: 0}, {P: api.MaxLatency, E: api.MaxPower}}
	for count := range len(others) + 1 {
		p := one(4, 7, 2)
		p.Levels = append(p.Levels, others[:count]...)
		for crit := range min(count, 2) + 1 {
			p.Crit = crit
			boundIs(t, "levels and Crit", p, 3, 20, 37)
			boundIs(t, "levels and Crit", p, 5, 20, 35)
			boundIs(t, "levels and Crit", p, 6, 20, 42)
		}
	}
}

// P21.1: how the machine sleeps, switches, and what devices it has, does not
// count, nor how many semaphores, nor its Horizon.
func TestRestOfTheMachine(t *testing.T) {
	for name, change := range map[string]func(p *api.Platform){
		"nothing":        func(*api.Platform) {},
		"Switch":         func(p *api.Platform) { p.Switch = api.MaxLatency },
		"SwitchE":        func(p *api.Platform) { p.SwitchE = api.MaxPower },
		"Sems":           func(p *api.Platform) { p.Sems = api.MaxSems },
		"least Horizon":  func(p *api.Platform) { p.Horizon = 1 },
		"Horizon":        func(p *api.Platform) { p.Horizon = api.MaxHorizon },
		"a sleep state":  func(p *api.Platform) { p.Sleeps = []api.Sleep{{Even: 1}} },
		"sleep states":   func(p *api.Platform) { p.Sleeps = slices.Repeat([]api.Sleep{{Power: 2, Even: 5}}, api.MaxSleeps) },
		"no sleep state": func(p *api.Platform) { p.Sleeps = []api.Sleep{} },
		"a device":       func(p *api.Platform) { p.Devices = []api.Device{{On: api.MaxPower, Even: 1}} },
		"devices": func(p *api.Platform) {
			p.Devices = slices.Repeat([]api.Device{{On: 9, Off: 9, Even: 5}}, api.MaxDevices)
		},
		"no device": func(p *api.Platform) { p.Devices = []api.Device{} },
	} {
		p := one(4, 7, 2)
		change(&p)
		boundIs(t, name, p, 3, 20, 37)
		boundIs(t, name, p, 0, 20, 40)
		boundIs(t, name, p, 9, 20, 63)
		p = large(4, 7, 2)
		change(&p)
		boundIs(t, name, p, 3, 20, 37)
	}
}

// byQuanta is what that CPU costs, as it goes on quantum by quantum.
func byQuanta(p api.Platform, cycles, end int) int {
	now, energy := 0, 0
	for range cycles {
		now += p.Levels[0].P
		energy += p.Levels[0].E
	}
	for ; now < end; now++ {
		energy += p.Idle
	}
	return energy
}

// P21.1: all small numbers, against a CPU that goes on quantum by quantum.
func TestEverySmallBound(t *testing.T) {
	for pace := 1; pace <= 4; pace++ {
		for energy := range 4 {
			for idle := range 4 {
				for cycles := range 8 {
					for end := range 40 {
						p := one(pace, energy, idle)
						boundIs(t, "small", p, cycles, end, byQuanta(p, cycles, end))
					}
				}
			}
		}
	}
}

// P21.1: a quantum more costs Idle or nothing, and a cycle more costs E in
// place of as many Idles as it takes of what is left.
func TestOneMore(t *testing.T) {
	p := large(5, 11, 3)
	for cycles := range 12 {
		for end := range 70 {
			left := max(0, end-5*cycles)
			if got := Bound(p, cycles, end+1) - Bound(p, cycles, end); got != 3*min(1, max(0, end+1-5*cycles)) {
				t.Fatalf("a quantum more than %d with %d cycles costs %d", end, cycles, got)
			}
			if got := Bound(p, cycles+1, end) - Bound(p, cycles, end); got != 11-3*min(5, left) {
				t.Fatalf("a cycle more than %d up to %d costs %d", cycles, end, got)
			}
		}
	}
}

// drawMachine is a machine that may be.
func drawMachine(r *rand.Rand) api.Platform {
	small := func(n int) int { return r.IntN(1 + r.IntN(n+1)) }
	p := large(1+small(api.MaxLatency-api.MaxLevels), small(api.MaxPower), small(api.MaxPower))
	p.Switch, p.SwitchE, p.Sems = small(api.MaxLatency), small(api.MaxPower), r.IntN(api.MaxSems+1)
	p.Horizon = 1 + small(api.MaxHorizon-1)
	for n := range p.Levels[1:] {
		p.Levels[n+1].E = small(api.MaxPower)
	}
	p.Levels = p.Levels[:1+r.IntN(api.MaxLevels)]
	p.Crit = r.IntN(len(p.Levels))
	for p.Crit > 0 && table.Check(p) != api.OK {
		p.Crit--
	}
	p.Sleeps = p.Sleeps[:r.IntN(len(p.Sleeps)+1)]
	p.Devices = p.Devices[:r.IntN(len(p.Devices)+1)]
	return p
}

// P21.1: many machines, cycles and ends, against the promise's sentence.
func TestManyBounds(t *testing.T) {
	r := rand.New(rand.NewPCG(21, 1))
	idle, just, never, slow := 0, 0, 0, 0
	for range 40000 {
		p := drawMachine(r)
		cycles := r.IntN(1 << r.IntN(31))
		end := r.IntN(1 << r.IntN(31))
		take := cycles * p.Levels[0].P
		if r.IntN(3) == 0 {
			end = min(max(0, take+r.IntN(5)-2), most)
		}
		plainIs(t, "drawn", p, cycles, end)
		switch {
		case end == take:
			just++
		case end > take:
			idle++
		default:
			never++
		}
		if p.Crit > 0 {
			slow++
		}
	}
	if idle < 5000 || just < 1000 || never < 5000 || slow < 5000 {
		t.Fatalf("too few of a kind: %d idle, %d just, %d never idle, %d with a Crit", idle, just, never, slow)
	}
}

// P21.2: nil and empty lists have nothing.
func TestNoIntervals(t *testing.T) {
	listIs(t, "nil", nil, 0, 0)
	listIs(t, "empty", []api.Interval{}, 0, 0)
}

// wanted are the two counts of one interval.
func wanted(i api.Interval) (cycles, switches int) {
	if i.Kind == api.Run {
		cycles = i.Cycles
	}
	if i.Kind == api.Switch {
		switches = 1
	}
	return
}

// P21.2: one interval: a Run has its Cycles, a Switch is one, and all others
// have nothing, such of no Kind, too.
func TestOneInterval(t *testing.T) {
	for _, kind := range append(slices.Clone(kinds), noKinds...) {
		for _, cycles := range []int{0, 1, 2, 9, 1 << 20, most - 1, most} {
			i := api.Interval{Kind: kind, From: 5, Len: 3, Arg: 1, Task: 2, Cycles: cycles}
			ran, switched := wanted(i)
			listIs(t, fmt.Sprint("Kind ", kind), []api.Interval{i}, ran, switched)
		}
	}
}

// P21.2: by hand: each Kind between the others.
func TestEachKind(t *testing.T) {
	run := func(cycles int) api.Interval { return api.Interval{Kind: api.Run, Cycles: cycles} }
	other := func(kind int) api.Interval { return api.Interval{Kind: kind, Cycles: 1000} }
	listIs(t, "Runs", []api.Interval{run(1), run(20), run(300), run(0), run(4000)}, 4321, 0)
	listIs(t, "Switches", []api.Interval{other(api.Switch), other(api.Switch), other(api.Switch)}, 0, 3)
	for _, kind := range slices.Concat([]int{api.Idle, api.Enter, api.Asleep, api.Exit}, noKinds) {
		x := other(kind)
		listIs(t, "that alone", []api.Interval{x, x, x}, 0, 0)
		listIs(t, "between Runs", []api.Interval{x, run(2), x, run(3), x}, 5, 0)
		listIs(t, "with Switches", []api.Interval{other(api.Switch), x, run(2), other(api.Switch), x}, 2, 2)
	}
}

// P21.2: the same intervals in any order have the same.
func TestAnyOrder(t *testing.T) {
	list := []api.Interval{
		{Kind: api.Run, Cycles: 2}, {Kind: api.Switch, Cycles: 40}, {Kind: api.Idle, Cycles: 9}, {Kind: api.Run, Cycles: 3},
		{Kind: api.Enter, Cycles: 7}, {Kind: api.Asleep, Cycles: 8}, {Kind: api.Exit, Cycles: 6}, {Kind: api.Switch},
	}
	for range list {
		listIs(t, "turned", list, 5, 2)
		list = append(list[1:], list[0])
	}
	slices.Reverse(list)
	listIs(t, "reversed", list, 5, 2)
}

// P21.2: fields but the Kind and a Run's Cycles do not matter, nor do the
// Cycles of a Switch.
func TestOtherFields(t *testing.T) {
	for _, x := range ends {
		list := []api.Interval{
			{Kind: api.Run, From: x, Len: x, Arg: x, Task: x, Cycles: 4},
			{Kind: api.Switch, From: x, Len: x, Arg: x, Task: x},
			{Kind: api.Switch, From: x, Len: x, Arg: x, Task: x, Cycles: min(max(0, x), most)},
			{Kind: api.Asleep, From: x, Len: x, Arg: x, Task: x, Cycles: min(max(0, x), most)},
			{Kind: api.Run, From: x, Len: x, Arg: x, Task: x, Cycles: 5},
		}
		listIs(t, "other fields", list, 9, 2)
	}
}

// P21.2: many Runs at their greatest, and many Switches.
func TestLongLists(t *testing.T) {
	for _, count := range []int{1, 2, 3, 4, 5, 1000, 70000} {
		listIs(t, "Runs", slices.Repeat([]api.Interval{{Kind: api.Run, Cycles: most}}, count), count<<30, 0)
		listIs(t, "Switches", slices.Repeat([]api.Interval{{Kind: api.Switch, Cycles: most}}, count), 0, count)
		both := slices.Repeat([]api.Interval{{Kind: api.Switch}, {Kind: api.Run, Cycles: 3}, {Kind: api.Idle}}, count)
		listIs(t, "both", both, 3*count, count)
	}
}

// every is called with each list of that length of the Kinds around all that
// there are.
func every(length int, list []api.Interval, call func([]api.Interval)) {
	call(list)
	if length == 0 {
		return
	}
	for kind := range 8 {
		every(length-1, append(list, api.Interval{Kind: kind, Cycles: 1 << (3 * len(list))}), call)
	}
}

// P21.2: all lists of up to four intervals, whose Cycles tell which of them
// count.
func TestEverySmallList(t *testing.T) {
	every(4, nil, func(list []api.Interval) {
		cycles, switches := 0, 0
		for _, i := range list {
			ran, switched := wanted(i)
			cycles, switches = cycles+ran, switches+switched
		}
		listIs(t, "small", list, cycles, switches)
	})
}

// drawList is a list of any intervals.
func drawList(r *rand.Rand) (list []api.Interval) {
	any := func() int { return ends[r.IntN(len(ends))] }
	for range r.IntN(40) {
		i := api.Interval{Kind: kinds[r.IntN(len(kinds))], From: r.IntN(100), Len: r.IntN(10), Arg: r.IntN(4), Task: r.IntN(6)}
		if r.IntN(8) == 0 {
			i = api.Interval{Kind: noKinds[r.IntN(len(noKinds))], From: any(), Len: any(), Arg: any(), Task: any()}
		}
		i.Cycles = r.IntN(1 << r.IntN(31))
		if r.IntN(8) == 0 {
			i.Cycles = most
		}
		list = append(list, i)
	}
	return list
}

// plainCounts are P21.2 sentence by sentence: what is no Run, or no Switch, is
// taken out of a list, and the rest counted.
func plainCounts(list []api.Interval) (cycles, switches int) {
	runs := slices.DeleteFunc(slices.Clone(list), func(i api.Interval) bool { return i.Kind != api.Run })
	all := new(big.Int)
	for _, i := range runs {
		all.Add(all, big.NewInt(int64(i.Cycles)))
	}
	switched := slices.DeleteFunc(slices.Clone(list), func(i api.Interval) bool { return i.Kind != api.Switch })
	return int(all.Int64()), len(switched)
}

// P21.2: many lists, against the promise's sentences; what two lists have is
// together what the one behind the other has.
func TestManyLists(t *testing.T) {
	r := rand.New(rand.NewPCG(21, 2))
	ran, switched := 0, 0
	for range 5000 {
		one, two := drawList(r), drawList(r)
		both := slices.Concat(one, two)
		for _, list := range [][]api.Interval{one, two, both} {
			cycles, switches := plainCounts(list)
			listIs(t, "drawn", list, cycles, switches)
			ran, switched = ran+min(1, cycles), switched+min(1, switches)
		}
		if Cycles(one)+Cycles(two) != Cycles(both) || Switches(one)+Switches(two) != Switches(both) {
			t.Fatalf("together it is not what both have: %+v and %+v", one, two)
		}
	}
	if ran < 10000 || switched < 10000 {
		t.Fatalf("too few lists: %d with Runs, %d with Switches", ran, switched)
	}
}

// scripted is a kernel behind a script with jobs that run at several levels.
func scripted(t *testing.T, p api.Platform, policy, sleep int) *kern.Kernel {
	k, fault := kern.New(p)
	if fault != api.OK {
		t.Fatalf("the kernel is not made: %d", fault)
	}
	for _, s := range []api.Step{
		{Kind: api.StepAdmit, Task: api.Task{Period: 40, Cycles: 12}},
		{Kind: api.StepAdmit, Task: api.Task{Period: 100, Cycles: 9}},
		{Kind: api.StepPolicy, A: policy, B: sleep},
		{Kind: api.StepArrive, A: 1, B: 0, C: 9},
		{Kind: api.StepArrive, A: 0, B: 5, C: 12},
		{Kind: api.StepTick, A: 60},
		{Kind: api.StepArrive, A: 0, B: 0, C: 99},
		{Kind: api.StepTick, A: 90},
	} {
		if _, fault := k.Do(s); fault != api.OK {
			t.Fatalf("%+v is refused: %d", s, fault)
		}
	}
	return k
}

// P21.1, P21.2, P4: what a kernel did has cost no more than Bound of its
// Cycles, up to its end, and what its Switches cost.
func TestOfKernels(t *testing.T) {
	p := api.Platform{
		Levels: []api.Level{{P: 1, E: 9}, {P: 3, E: 5}}, Idle: 1, Crit: 1, Switch: 2, SwitchE: 4, Horizon: 200,
		Sleeps: []api.Sleep{{Enter: 1, Exit: 1, EnterE: 1, ExitE: 1, Even: 4}},
	}
	for policy, switches := range []int{api.Full: 0, api.Static: 0, api.Lazy: 2, api.Saving: 0} {
		for sleep := range 2 {
			k := scripted(t, p, policy, sleep)
			for k.Asleep() {
				k.Do(api.Step{Kind: api.StepTick, A: 1})
			}
			list := k.Trace()
			if Cycles(list) != 33 || Switches(list) != switches {
				t.Errorf("policy %d: %d cycles, %d switches, not 33 and %d: %+v", policy, Cycles(list), Switches(list), switches, list)
			}
			bound := Bound(p, Cycles(list), k.Now()) + Switches(list)*p.SwitchE
			cost := k.Meter().Total()
			if cost > bound || policy != api.Lazy && sleep == 0 && cost != bound {
				t.Errorf("policy %d, sleep %d: it has cost %d, and the bound is %d: %+v", policy, sleep, cost, bound, list)
			}
		}
	}
}

// R4, R5: nothing is kept: what the caller writes into its lists counts from
// then on, and calls between change no answer.
func TestNothingKept(t *testing.T) {
	p := one(2, 5, 3)
	list := []api.Interval{{Kind: api.Run, Cycles: 2}, {Kind: api.Switch}}
	for range 3 {
		p.Levels[0] = api.Level{P: 2, E: 5}
		boundIs(t, "at first", p, 2, 10, 28)
		p.Levels[0].E = 6
		boundIs(t, "another E", p, 2, 10, 30)
		p.Levels[0].P = 5
		boundIs(t, "another P", p, 2, 10, 12)
		boundIs(t, "another machine", one(1, 1, 1), 2, 10, 10)
		list[0], list[1] = api.Interval{Kind: api.Run, Cycles: 2}, api.Interval{Kind: api.Switch}
		listIs(t, "at first", list, 2, 1)
		list[0].Cycles = 7
		listIs(t, "other Cycles", list, 7, 1)
		list[0].Kind, list[1].Kind = api.Idle, api.Idle
		listIs(t, "other Kinds", list, 0, 0)
		listIs(t, "nothing", nil, 0, 0)
	}
}

// R1, R7: a call ends without a panic also where nothing is promised of it.
func TestBeyondTheBracket(t *testing.T) {
	for _, x := range ends {
		for _, y := range ends {
			for _, p := range []api.Platform{{}, {Levels: []api.Level{}, Idle: x}, one(x, y, x), one(y, x, y), large(2, 5, 3)} {
				Bound(p, x, y)
			}
			list := []api.Interval{{Kind: api.Run, Cycles: x}, {Kind: api.Run, Cycles: y}, {Kind: x, Cycles: y}}
			Cycles(list)
			Switches(list)
		}
	}
}
