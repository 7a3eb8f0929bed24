package meter

import (
	"fmt"
	"math"
	"math/big"
	"reflect"
	"slices"
	"testing"

	"dormouse/api"
)

// most is the greatest Len, Cycles or number of a machine of which the
// chapter speaks, and full the greatest number of a meter.
const (
	most = 1 << 30
	full = 1 << 60
)

// kinds are all kinds of intervals.
var kinds = []int{api.Run, api.Idle, api.Switch, api.Enter, api.Asleep, api.Exit}

// noKinds are numbers that are no kind.
var noKinds = []int{math.MinInt, math.MinInt + 1, -1 << 32, -6, -3, -1, 0, 7, 8, 1<<32 + 1, 1<<32 + 5, math.MaxInt - 1, math.MaxInt}

// ends are Args at the ends of int, and such as are small ones in fewer bits.
var ends = []int{
	math.MinInt, math.MinInt + 1, math.MinInt / 2, -1 << 32, -1 << 8, -2, -1,
	1 << 8, 1 << 16, 1 << 32, 1<<32 + 1, math.MaxInt / 2, math.MaxInt - 1, math.MaxInt,
}

// machine is one with as many levels and sleep states as are asked for, of
// which no two numbers are the same.
func machine(levels, sleeps int) api.Platform {
	last := 100
	next := func() int { last += 7; return last }
	p := api.Platform{
		Idle: next(), Crit: next(), Switch: next(), SwitchE: next(), Sems: next(), Horizon: next(),
		Devices: []api.Device{{On: next(), Off: next(), Down: next(), Up: next(), DownE: next(), UpE: next(), Even: next()}},
	}
	for range levels {
		p.Levels = append(p.Levels, api.Level{P: next(), E: next()})
	}
	for range sleeps {
		p.Sleeps = append(p.Sleeps, api.Sleep{
			Power: next(), Enter: next(), Exit: next(), EnterE: next(), ExitE: next(), Even: next(),
		})
	}
	return p
}

// flat is machine(levels, sleeps) with each number that is spoken of set to x.
func flat(levels, sleeps, x int) api.Platform {
	return api.Platform{
		Levels: slices.Repeat([]api.Level{{P: x, E: x}}, levels),
		Sleeps: slices.Repeat([]api.Sleep{{Power: x, Enter: x, Exit: x, EnterE: x, ExitE: x, Even: x}}, sleeps),
		Idle:   x, Crit: x, Switch: x, SwitchE: x, Sems: x, Horizon: x,
	}
}

// roomy is a copy of a list, with spare room that is not empty.
func roomy[T any](list []T, filler T) []T {
	if list == nil {
		return nil
	}
	more := append(slices.Clone(list), filler, filler)
	return more[:len(list)]
}

// withRoom is p, its lists with spare room: what stands there is no level
// and no sleep state.
func withRoom(p api.Platform) api.Platform {
	p.Levels = roomy(p.Levels, api.Level{P: 9001, E: 9002})
	p.Sleeps = roomy(p.Sleeps, api.Sleep{Power: 9003, Enter: 9004, Exit: 9005, EnterE: 9006, ExitE: 9007, Even: 9008})
	p.Devices = roomy(p.Devices, api.Device{On: 9009, Even: 9010})
	return p
}

// whole is a copy of p, the spare room of its lists included.
func whole(p api.Platform) api.Platform {
	p.Levels = slices.Clone(p.Levels[:cap(p.Levels)])
	p.Sleeps = slices.Clone(p.Sleeps[:cap(p.Sleeps)])
	p.Devices = slices.Clone(p.Devices[:cap(p.Devices)])
	return p
}

// costIs holds Of against what is wanted, twice, Add at several meters
// against the same, and all that is handed in against what it was.
func costIs(t *testing.T, name string, p api.Platform, i api.Interval, want int) {
	t.Helper()
	p = withRoom(p)
	was := whole(p)
	for range 2 {
		if got := Of(p, i); got != want {
			t.Fatalf("%s: Of(%+v, %+v) is %d, not %d", name, p, i, got, want)
		}
		for _, m := range meters() {
			before := m
			if got := m.Add(p, i); got != more(m, i.Kind, want) {
				t.Fatalf("%s: %+v.Add(%+v, %+v) is %+v, not %+v", name, m, p, i, got, more(m, i.Kind, want))
			}
			if m != before {
				t.Fatalf("%s: Add has changed its meter to %+v", name, m)
			}
		}
	}
	if !reflect.DeepEqual(was, whole(p)) {
		t.Fatalf("%s: what was handed in is changed: %+v", name, p)
	}
}

// meters are some to which an interval is added: at 0, at the greatest, and
// such of which each number differs.
func meters() []Meter {
	return []Meter{
		{}, {full, full, full, full}, {1, 20, 300, 4000},
		{full, 0, 0, 0}, {0, full, 0, 0}, {0, 0, full, 0}, {0, 0, 0, full},
		{full - 1, full - 20, full - 300, full - 4000},
	}
}

// more is m with a cost more, where a Kind's cost belongs.
func more(m Meter, kind, cost int) Meter {
	row := map[int]*int{
		api.Run: &m.Run, api.Idle: &m.Idle, api.Switch: &m.Switch,
		api.Enter: &m.Sleep, api.Asleep: &m.Sleep, api.Exit: &m.Sleep,
	}[kind]
	if row != nil {
		*row += cost
	}
	return m
}

// P5.1: the chapter's first example.
func TestExampleOne(t *testing.T) {
	p := api.Platform{Levels: []api.Level{{P: 1, E: 5}}}
	costIs(t, "2 cycles at an E of 5", p, api.Interval{Kind: api.Run, Cycles: 2}, 10)
}

// P5.1: the chapter's second example.
func TestExampleTwo(t *testing.T) {
	p := api.Platform{Levels: []api.Level{{P: 1, E: 5}}, Switch: 3, SwitchE: 7, Idle: 2}
	for _, length := range []int{0, 1, 2, 3, 99, most} {
		costIs(t, "a Switch", p, api.Interval{Kind: api.Switch, Len: length}, 7)
	}
}

// P5.1, P5.2: each Kind by hand, on a machine of two levels and two sleep
// states.
func TestEachKind(t *testing.T) {
	p := api.Platform{
		Levels: []api.Level{{P: 2, E: 50}, {P: 3, E: 40}},
		Sleeps: []api.Sleep{
			{Power: 6, Enter: 7, Exit: 8, EnterE: 90, ExitE: 100, Even: 11},
			{Power: 5, Enter: 12, Exit: 13, EnterE: 140, ExitE: 150, Even: 16},
		},
		Idle: 17, Crit: 1, Switch: 18, SwitchE: 19, Sems: 2, Horizon: 20,
	}
	for _, c := range []struct{ kind, arg, want int }{
		{api.Run, 0, 150}, {api.Run, 1, 120}, {api.Idle, 0, 68}, {api.Switch, 0, 19}, {api.Switch, 1, 19},
		{api.Enter, 0, 90}, {api.Enter, 1, 140}, {api.Asleep, 0, 24}, {api.Asleep, 1, 20},
		{api.Exit, 0, 100}, {api.Exit, 1, 150},
	} {
		i := api.Interval{Kind: c.kind, From: 1000, Len: 4, Arg: c.arg, Task: 5, Cycles: 3}
		costIs(t, fmt.Sprint("Kind ", c.kind, " Arg ", c.arg), p, i, c.want)
	}
}

// byArg is what an interval of each Kind with a Len of 3 and Cycles of 5
// costs, its Arg looked for among the numbers that there are.
func byArg(p api.Platform, kind, arg int) int {
	switch kind {
	case api.Idle:
		return 3 * p.Idle
	case api.Switch:
		return p.SwitchE
	}
	cost := 0
	for n, l := range p.Levels {
		if kind == api.Run && n == arg {
			cost = 5 * l.E
		}
	}
	for n, s := range p.Sleeps {
		if n == arg {
			cost += map[int]int{api.Enter: s.EnterE, api.Asleep: 3 * s.Power, api.Exit: s.ExitE}[kind]
		}
	}
	return cost
}

// P5.1, P5.2: each Kind at each Arg, those that are no number of a level or
// of a sleep state among them, on machines with few and with many of both.
func TestEachArg(t *testing.T) {
	args := slices.Clone(ends)
	for arg := range 9 {
		args = append(args, arg)
	}
	for levels := range 7 {
		for sleeps := range 7 {
			p := machine(levels, sleeps)
			for _, kind := range kinds {
				for _, arg := range args {
					i := api.Interval{Kind: kind, Len: 3, Arg: arg, Cycles: 5}
					costIs(t, fmt.Sprintf("%d levels, %d sleep states", levels, sleeps), p, i, byArg(p, kind, arg))
				}
			}
		}
	}
}

// P5.1, P5.2: just before the first and just behind the last level and sleep
// state there is nothing that costs: m itself.
func TestArgsOutside(t *testing.T) {
	for levels := range api.MaxLevels + 1 {
		for sleeps := range api.MaxSleeps + 1 {
			p := flat(levels, sleeps, most)
			for _, arg := range append(slices.Clone(ends), levels, levels+1) {
				costIs(t, "no level", p, api.Interval{Kind: api.Run, Len: most, Arg: arg, Cycles: most}, 0)
			}
			for _, arg := range append(slices.Clone(ends), sleeps, sleeps+1) {
				for _, kind := range []int{api.Enter, api.Asleep, api.Exit} {
					costIs(t, "no sleep state", p, api.Interval{Kind: kind, Len: most, Arg: arg, Cycles: most}, 0)
				}
			}
		}
	}
}

// R1, R4: nil and empty lists are the same.
func TestNoLists(t *testing.T) {
	empty := api.Platform{Levels: []api.Level{}, Sleeps: []api.Sleep{}, Devices: []api.Device{}, Idle: 4, SwitchE: 9}
	for _, p := range []api.Platform{{Idle: 4, SwitchE: 9}, empty} {
		for _, arg := range append(slices.Clone(ends), 0, 1, 2, 3) {
			for kind, want := range map[int]int{api.Run: 0, api.Idle: 12, api.Switch: 9, api.Enter: 0, api.Asleep: 0, api.Exit: 0} {
				costIs(t, "no lists", p, api.Interval{Kind: kind, Len: 3, Arg: arg, Cycles: 5}, want)
			}
		}
	}
	for _, kind := range kinds {
		costIs(t, "nothing at all", api.Platform{}, api.Interval{Kind: kind, Len: 3, Cycles: 5}, 0)
	}
}

// P5.1, P5.2: a Kind that is none costs nothing, and adds nothing.
func TestNoKinds(t *testing.T) {
	p := flat(api.MaxLevels, api.MaxSleeps, most)
	for _, kind := range noKinds {
		for _, arg := range append(slices.Clone(ends), 0, 1, 2, 3) {
			i := api.Interval{Kind: kind, From: 7, Len: most, Arg: arg, Task: 2, Cycles: most}
			costIs(t, "no Kind", p, i, 0)
			costIs(t, "no Kind, nothing", api.Platform{}, i, 0)
		}
	}
}

// P5.1, P5.2: Len, Cycles and a machine's numbers, at 0, and at the greatest
// of which the chapter speaks.
func TestEdges(t *testing.T) {
	sizes := []int{0, 1, 2, most - 1, most}
	for _, x := range sizes {
		p := flat(api.MaxLevels, api.MaxSleeps, x)
		for _, length := range sizes {
			for _, cycles := range sizes {
				want := map[int]int{
					api.Run: cycles * x, api.Idle: length * x, api.Switch: x,
					api.Enter: x, api.Asleep: length * x, api.Exit: x,
				}
				for _, kind := range kinds {
					i := api.Interval{Kind: kind, Len: length, Arg: 2, Cycles: cycles}
					costIs(t, fmt.Sprint("numbers of ", x), p, i, want[kind])
				}
			}
		}
	}
	costIs(t, "the greatest of all", flat(1, 0, most), api.Interval{Kind: api.Run, Cycles: most}, full)
}

// P5.1: what a Kind does not speak of changes nothing: From and Task, Arg of
// an Idle and of a Switch, Len of all but an Idle and an Asleep, Cycles of
// all but a Run.
func TestOtherFields(t *testing.T) {
	p := machine(api.MaxLevels, api.MaxSleeps)
	anything := append(slices.Clone(ends), 0, 1, 2, 3, 4, 5)
	for _, kind := range kinds {
		base := api.Interval{Kind: kind, From: 11, Len: 3, Arg: 1, Task: 2, Cycles: 5}
		want := byArg(p, kind, 1)
		for _, x := range anything {
			i := base
			i.From = x
			costIs(t, "From", p, i, want)
			i = base
			i.Task = x
			costIs(t, "Task", p, i, want)
			if kind == api.Idle || kind == api.Switch {
				i = base
				i.Arg = x
				costIs(t, "Arg", p, i, want)
			}
		}
		for _, x := range []int{0, 1, 2, 4, 1000, most} {
			if kind != api.Idle && kind != api.Asleep {
				i := base
				i.Len = x
				costIs(t, "Len", p, i, want)
			}
			if kind != api.Run {
				i := base
				i.Cycles = x
				costIs(t, "Cycles", p, i, want)
			}
		}
	}
}

// numbersOf are all numbers of p, by what they are called.
func numbersOf(p *api.Platform) map[string]*int {
	all := map[string]*int{
		"Idle": &p.Idle, "Crit": &p.Crit, "Switch": &p.Switch, "SwitchE": &p.SwitchE, "Sems": &p.Sems, "Horizon": &p.Horizon,
	}
	for n := range p.Levels {
		l := &p.Levels[n]
		all[fmt.Sprint("P", n)], all[fmt.Sprint("E", n)] = &l.P, &l.E
	}
	for n := range p.Sleeps {
		s := &p.Sleeps[n]
		all[fmt.Sprint("Power", n)], all[fmt.Sprint("Enter", n)], all[fmt.Sprint("Exit", n)] = &s.Power, &s.Enter, &s.Exit
		all[fmt.Sprint("EnterE", n)], all[fmt.Sprint("ExitE", n)], all[fmt.Sprint("Even", n)] = &s.EnterE, &s.ExitE, &s.Even
	}
	for n := range p.Devices {
		d := &p.Devices[n]
		all[fmt.Sprint("On", n)], all[fmt.Sprint("Off", n)], all[fmt.Sprint("Down", n)], all[fmt.Sprint("Up", n)] = &d.On, &d.Off, &d.Down, &d.Up
		all[fmt.Sprint("DownE", n)], all[fmt.Sprint("UpE", n)], all[fmt.Sprint("Away", n)] = &d.DownE, &d.UpE, &d.Even
	}
	return all
}

// P5.1: of a machine's numbers just one counts for an interval; it counts
// once, or for each quantum or cycle. All others may be what they like.
func TestWhichNumberCounts(t *testing.T) {
	for _, kind := range kinds {
		for arg := range api.MaxSleeps {
			counts, weight := "Idle", 3
			switch kind {
			case api.Run:
				counts, weight = fmt.Sprint("E", arg), 5
			case api.Switch:
				counts, weight = "SwitchE", 1
			case api.Enter:
				counts, weight = fmt.Sprint("EnterE", arg), 1
			case api.Asleep:
				counts = fmt.Sprint("Power", arg)
			case api.Exit:
				counts, weight = fmt.Sprint("ExitE", arg), 1
			}
			i := api.Interval{Kind: kind, Len: 3, Arg: arg, Cycles: 5}
			for name := range numbersOf(new(machine(api.MaxLevels, api.MaxSleeps))) {
				p := machine(api.MaxLevels, api.MaxSleeps)
				want := byArg(p, kind, arg)
				*numbersOf(&p)[name] += 1000
				if name == counts {
					want += 1000 * weight
				}
				costIs(t, fmt.Sprint(name, " 1000 more"), p, i, want)
			}
		}
	}
}

// P5.2: which of the four numbers grows, and that the other three stay.
func TestAddEachKind(t *testing.T) {
	p := api.Platform{
		Levels: []api.Level{{P: 1, E: 5}}, Idle: 3, SwitchE: 7,
		Sleeps: []api.Sleep{{Power: 1, EnterE: 4, ExitE: 6}},
	}
	for _, c := range []struct {
		kind int
		want Meter
	}{
		{api.Run, Meter{1010, 2000, 3000, 4000}},
		{api.Idle, Meter{1000, 2024, 3000, 4000}},
		{api.Switch, Meter{1000, 2000, 3007, 4000}},
		{api.Enter, Meter{1000, 2000, 3000, 4004}},
		{api.Asleep, Meter{1000, 2000, 3000, 4008}},
		{api.Exit, Meter{1000, 2000, 3000, 4006}},
		{0, Meter{1000, 2000, 3000, 4000}},
		{7, Meter{1000, 2000, 3000, 4000}},
	} {
		m := Meter{Run: 1000, Idle: 2000, Switch: 3000, Sleep: 4000}
		if got := m.Add(p, api.Interval{Kind: c.kind, Len: 8, Cycles: 2}); got != c.want {
			t.Errorf("Add of Kind %d is %+v, not %+v", c.kind, got, c.want)
		}
		if m != (Meter{1000, 2000, 3000, 4000}) {
			t.Errorf("Add of Kind %d has changed m: %+v", c.kind, m)
		}
	}
}

// P5.2: the greatest cost on the greatest meter.
func TestAddGreatest(t *testing.T) {
	p := flat(1, 1, most)
	for _, kind := range []int{api.Run, api.Idle, api.Asleep} {
		m := Meter{full, full, full, full}
		got := m.Add(p, api.Interval{Kind: kind, Len: most, Cycles: most})
		if got != more(m, kind, full) || max(got.Run, got.Idle, got.Sleep) != 1<<61 {
			t.Errorf("Add of Kind %d is %+v", kind, got)
		}
	}
}

// P5.2: Total is all four together, at meters of which each number differs,
// at 0, and at the greatest.
func TestTotal(t *testing.T) {
	for _, c := range []struct {
		m    Meter
		want int
	}{
		{Meter{}, 0},
		{Meter{Run: 1}, 1}, {Meter{Idle: 1}, 1}, {Meter{Switch: 1}, 1}, {Meter{Sleep: 1}, 1},
		{Meter{Run: 1, Idle: 20, Switch: 300, Sleep: 4000}, 4321},
		{Meter{Run: 10, Idle: 6, Switch: 7, Sleep: 18}, 41},
		{Meter{Run: full}, full}, {Meter{Idle: full}, full}, {Meter{Switch: full}, full}, {Meter{Sleep: full}, full},
		{Meter{full, full, full, full}, 1 << 62},
		{Meter{full - 1, full - 20, full - 300, full - 4000}, 1<<62 - 4321},
	} {
		was := c.m
		for range 2 {
			if got := c.m.Total(); got != c.want {
				t.Errorf("%+v.Total() is %d, not %d", c.m, got, c.want)
			}
		}
		if c.m != was {
			t.Errorf("Total has changed m: %+v", c.m)
		}
	}
}

// numbers makes numbers that look like any, the same ones each time.
func numbers(seed uint64) func(n int) int {
	return func(n int) int {
		seed = seed*6364136223846793005 + 1442695040888963407
		return int(seed>>33) % n
	}
}

// drawn is an interval of any Kind and Arg, those that are none among them.
func drawn(next func(n int) int, greatest int) api.Interval {
	i := api.Interval{
		Kind: next(9) - 1, From: next(greatest + 1), Len: next(greatest + 1),
		Arg: next(7) - 1, Task: next(6), Cycles: next(greatest + 1),
	}
	if next(20) == 0 {
		i.Kind = noKinds[next(len(noKinds))]
	}
	if next(20) == 0 {
		i.Arg = ends[next(len(ends))]
	}
	return i
}

// product is a times b, in numbers that do not wrap round.
func product(a, b int) *big.Int {
	return new(big.Int).Mul(big.NewInt(int64(a)), big.NewInt(int64(b)))
}

// sums are the plain sums of each kind: how many cycles at each level, idle
// quanta, and so on, and only then what they cost.
func sums(p api.Platform, list []api.Interval) (run, idle, switched, sleep *big.Int) {
	run, idle, switched, sleep = new(big.Int), new(big.Int), new(big.Int), new(big.Int)
	total := func(kind, arg int, of func(i api.Interval) int) (n int) {
		for _, i := range list {
			if i.Kind == kind && (i.Arg == arg || arg < 0) {
				n += of(i)
			}
		}
		return n
	}
	length := func(i api.Interval) int { return i.Len }
	cycles := func(i api.Interval) int { return i.Cycles }
	once := func(api.Interval) int { return 1 }
	for n, l := range p.Levels {
		run.Add(run, product(l.E, total(api.Run, n, cycles)))
	}
	idle.Add(idle, product(p.Idle, total(api.Idle, -1, length)))
	switched.Add(switched, product(p.SwitchE, total(api.Switch, -1, once)))
	for n, s := range p.Sleeps {
		sleep.Add(sleep, product(s.EnterE, total(api.Enter, n, once)))
		sleep.Add(sleep, product(s.Power, total(api.Asleep, n, length)))
		sleep.Add(sleep, product(s.ExitE, total(api.Exit, n, once)))
	}
	return
}

// equal says whether an int is that number.
func equal(x int, want *big.Int) bool { return big.NewInt(int64(x)).Cmp(want) == 0 }

// P5.1, P5.2: many intervals one behind the other, against a plain sum of
// each kind.
func TestManyIntervals(t *testing.T) {
	next := numbers(5)
	for round := range 400 {
		greatest := []int{3, 1000, 1 << 20, 1 << 24}[round%4]
		p := machine(1+next(api.MaxLevels), next(api.MaxSleeps+1))
		for _, at := range sortedNumbers(&p) {
			*at = next(greatest + 1)
		}
		was := whole(p)
		var m Meter
		var list []api.Interval
		for range next(200) {
			i := drawn(next, greatest)
			list = append(list, i)
			m = m.Add(p, i)
		}
		run, idle, switched, sleep := sums(p, list)
		if !equal(m.Run, run) || !equal(m.Idle, idle) || !equal(m.Switch, switched) || !equal(m.Sleep, sleep) {
			t.Fatalf("%+v on %+v: %+v, not %v, %v, %v, %v", list, p, m, run, idle, switched, sleep)
		}
		run.Add(run, idle).Add(run, switched).Add(run, sleep)
		if !equal(m.Total(), run) {
			t.Fatalf("%+v.Total() is %d, not %v", m, m.Total(), run)
		}
		if !reflect.DeepEqual(was, whole(p)) {
			t.Fatalf("the machine is changed: %+v", p)
		}
	}
}

// sortedNumbers are all numbers of p, in one order each time.
func sortedNumbers(p *api.Platform) (list []*int) {
	all := numbersOf(p)
	names := make([]string, 0, len(all))
	for name := range all {
		names = append(names, name)
	}
	slices.Sort(names)
	for _, name := range names {
		list = append(list, all[name])
	}
	return list
}
