package table

import (
	"fmt"
	"math"
	"math/big"
	"reflect"
	"slices"
	"testing"

	"dormouse/api"
)

// ends are numbers at the ends of int, and such as wrap round to small ones
// when they are added or multiplied.
var ends = []int{
	math.MinInt, math.MinInt + 1, math.MinInt / 2, -1 << 32, -1,
	1 << 32, 1 << 48, math.MaxInt / 2, math.MaxInt/2 + 1, math.MaxInt - 1, math.MaxInt,
}

// roomy is a copy of a list, with spare room that is not empty.
func roomy[T any](list []T, filler T) []T {
	if list == nil {
		return nil
	}
	more := append(slices.Clone(list), filler, filler)
	return more[:len(list)]
}

// whole is a list with its spare room.
func whole[T any](list []T) []T { return slices.Clone(list[:cap(list)]) }

// checkIs holds Check against what is wanted, twice, and p and its lists
// against what they were.
func checkIs(t *testing.T, name string, p api.Platform, want api.Errno) {
	t.Helper()
	p.Levels = roomy(p.Levels, api.Level{P: 77, E: 78})
	p.Sleeps = roomy(p.Sleeps, api.Sleep{Power: 79, Even: 80})
	p.Devices = roomy(p.Devices, api.Device{On: 81, Even: 82})
	levels, sleeps, devices := whole(p.Levels), whole(p.Sleeps), whole(p.Devices)
	for range 2 {
		if got := Check(p); got != want {
			t.Fatalf("%s: Check(%+v) is %d, not %d", name, p, got, want)
		}
	}
	if !reflect.DeepEqual(levels, whole(p.Levels)) || !reflect.DeepEqual(sleeps, whole(p.Sleeps)) ||
		!reflect.DeepEqual(devices, whole(p.Devices)) {
		t.Fatalf("%s: Check has changed what it was handed: %+v", name, p)
	}
}

// least is a machine of one level, and nothing else.
func least() api.Platform {
	return api.Platform{Levels: []api.Level{{P: 1}}, Horizon: 1}
}

// full is a machine with as many levels, sleep states and devices as there
// may be, in which there is room around each number.
func full() api.Platform {
	s := api.Sleep{Power: 3, Enter: 2, Exit: 3, EnterE: 4, ExitE: 5, Even: 600}
	d := api.Device{On: 40, Off: 4, Down: 3, Up: 2, DownE: 5, UpE: 6, Even: 700}
	return api.Platform{
		Levels: []api.Level{{P: 10, E: 900}, {P: 20, E: 800}, {P: 30, E: 700}, {P: 40, E: 600}},
		Sleeps: []api.Sleep{s, s, s}, Devices: []api.Device{d, d, d},
		Idle: 50, Crit: 3, Switch: 1, SwitchE: 2, Sems: 2, Horizon: 1000,
	}
}

// number is a number of a machine: what it is called, and where it stands.
type number struct {
	name string
	at   func(p *api.Platform) *int
}

// ownNumbers are those that stand in the Platform itself.
func ownNumbers() []number {
	return []number{
		{"Idle", func(p *api.Platform) *int { return &p.Idle }},
		{"Crit", func(p *api.Platform) *int { return &p.Crit }},
		{"Switch", func(p *api.Platform) *int { return &p.Switch }},
		{"SwitchE", func(p *api.Platform) *int { return &p.SwitchE }},
		{"Sems", func(p *api.Platform) *int { return &p.Sems }},
		{"Horizon", func(p *api.Platform) *int { return &p.Horizon }},
	}
}

// levelNumbers are those of level i.
func levelNumbers(i int) []number {
	return []number{
		{fmt.Sprint("P of level ", i), func(p *api.Platform) *int { return &p.Levels[i].P }},
		{fmt.Sprint("E of level ", i), func(p *api.Platform) *int { return &p.Levels[i].E }},
	}
}

// sleepNumbers are those of sleep state i.
func sleepNumbers(i int) []number {
	of := func(name string) string { return fmt.Sprint(name, " of sleep state ", i) }
	return []number{
		{of("Power"), func(p *api.Platform) *int { return &p.Sleeps[i].Power }},
		{of("Enter"), func(p *api.Platform) *int { return &p.Sleeps[i].Enter }},
		{of("Exit"), func(p *api.Platform) *int { return &p.Sleeps[i].Exit }},
		{of("EnterE"), func(p *api.Platform) *int { return &p.Sleeps[i].EnterE }},
		{of("ExitE"), func(p *api.Platform) *int { return &p.Sleeps[i].ExitE }},
		{of("Even"), func(p *api.Platform) *int { return &p.Sleeps[i].Even }},
	}
}

// deviceNumbers are those of device i.
func deviceNumbers(i int) []number {
	of := func(name string) string { return fmt.Sprint(name, " of device ", i) }
	return []number{
		{of("On"), func(p *api.Platform) *int { return &p.Devices[i].On }},
		{of("Off"), func(p *api.Platform) *int { return &p.Devices[i].Off }},
		{of("Down"), func(p *api.Platform) *int { return &p.Devices[i].Down }},
		{of("Up"), func(p *api.Platform) *int { return &p.Devices[i].Up }},
		{of("DownE"), func(p *api.Platform) *int { return &p.Devices[i].DownE }},
		{of("UpE"), func(p *api.Platform) *int { return &p.Devices[i].UpE }},
		{of("Even"), func(p *api.Platform) *int { return &p.Devices[i].Even }},
	}
}

// allNumbers are those of a machine.
func allNumbers(p api.Platform) []number {
	all := ownNumbers()
	for i := range p.Levels {
		all = append(all, levelNumbers(i)...)
	}
	for i := range p.Sleeps {
		all = append(all, sleepNumbers(i)...)
	}
	for i := range p.Devices {
		all = append(all, deviceNumbers(i)...)
	}
	return all
}

// rangeIs holds Check against a number's range in the machines that base
// makes: both of its ends may be, and nothing outside of it.
func rangeIs(t *testing.T, base func() api.Platform, n number, low, high int) {
	t.Helper()
	set := func(x int, want api.Errno) {
		t.Helper()
		p := base()
		*n.at(&p) = x
		checkIs(t, fmt.Sprint(n.name, " ", x), p, want)
	}
	set(low, api.OK)
	set((low+high)/2, api.OK)
	set(high, api.OK)
	set(low-1, api.ErrTable)
	set(high+1, api.ErrTable)
	for _, x := range ends {
		set(x, api.ErrTable)
	}
}

// P4.1: the chapter's first example.
func TestExampleOne(t *testing.T) {
	p := api.Platform{Levels: []api.Level{{P: 1}}, Horizon: 1}
	checkIs(t, "a Horizon of 1", p, api.OK)
	p.Horizon = 0
	checkIs(t, "a Horizon of 0", p, api.ErrTable)
}

// P4.1: the chapter's second example.
func TestExampleTwo(t *testing.T) {
	p := api.Platform{Levels: []api.Level{{P: 2, E: 5}, {P: 3, E: 6}}, Idle: 1, Crit: 1, Horizon: 9}
	checkIs(t, "E 6", p, api.OK)
	p.Levels[1].E = 7
	checkIs(t, "E 7", p, api.ErrTable)
	p.Crit = 0
	checkIs(t, "E 7, Crit 0", p, api.OK)
}

// P4.1: the machines that the other tests start from may be.
func TestBases(t *testing.T) {
	checkIs(t, "least", least(), api.OK)
	checkIs(t, "full", full(), api.OK)
	checkIs(t, "nothing", api.Platform{}, api.ErrTable)
}

// P4.1: how many levels, sleep states and devices there may be; nil and
// empty lists are the same.
func TestHowMany(t *testing.T) {
	for n := range 9 {
		p := least()
		p.Levels = make([]api.Level, n)
		for i := range n {
			p.Levels[i].P = i + 1
		}
		checkIs(t, "levels", p, when(n >= 1 && n <= 4))

		p = least()
		p.Sleeps = slices.Repeat([]api.Sleep{{Even: 1}}, n)
		checkIs(t, "sleep states", p, when(n <= 3))

		p = least()
		p.Devices = slices.Repeat([]api.Device{{Even: 1}}, n)
		checkIs(t, "devices", p, when(n <= 3))
	}
	p := least()
	p.Sleeps, p.Devices = []api.Sleep{}, []api.Device{}
	checkIs(t, "empty lists", p, api.OK)
	p.Levels = []api.Level{}
	checkIs(t, "no level", p, api.ErrTable)
	p.Levels = nil
	checkIs(t, "nil levels", p, api.ErrTable)
	for _, crit := range []int{-1, 0, 1} {
		checkIs(t, "no level, any Crit", api.Platform{Crit: crit, Horizon: 1}, api.ErrTable)
	}
}

// when is OK, if it is so.
func when(so bool) api.Errno {
	if so {
		return api.OK
	}
	return api.ErrTable
}

// P4.1: the numbers of the Platform itself, at the ends of their ranges,
// outside of them, and at the ends of int.
func TestOwnRanges(t *testing.T) {
	fourLevels := func() api.Platform {
		p := least()
		p.Levels = []api.Level{{P: 1}, {P: 2}, {P: 3}, {P: 4}}
		return p
	}
	own := ownNumbers()
	rangeIs(t, least, own[0], 0, 65536)
	rangeIs(t, least, own[1], 0, 0)
	rangeIs(t, fourLevels, own[1], 0, 3)
	rangeIs(t, least, own[2], 0, 256)
	rangeIs(t, least, own[3], 0, 65536)
	rangeIs(t, least, own[4], 0, 3)
	rangeIs(t, least, own[5], 1, 16384)
}

// P4.1: Crit below 0, at the last level, and behind it, for each number of
// levels.
func TestCrit(t *testing.T) {
	for n := 1; n <= 4; n++ {
		p := full()
		p.Levels = p.Levels[:n]
		for crit := -3; crit < 8; crit++ {
			p.Crit = crit
			checkIs(t, fmt.Sprint(n, " levels, Crit ", crit), p, when(crit >= 0 && crit < n))
		}
	}
}

// P4.1: P and E of a level, at the ends of their ranges, outside of them,
// and at the ends of int; each P is above that of the level ahead.
func TestLevelRanges(t *testing.T) {
	rangeIs(t, least, levelNumbers(0)[0], 1, 256)
	rangeIs(t, least, levelNumbers(0)[1], 0, 65536)
	slow := func() api.Platform {
		p := full()
		p.Crit = 0
		return p
	}
	rangeIs(t, slow, levelNumbers(0)[0], 1, 19)
	rangeIs(t, slow, levelNumbers(1)[0], 11, 29)
	rangeIs(t, slow, levelNumbers(2)[0], 21, 39)
	rangeIs(t, slow, levelNumbers(3)[0], 31, 256)
	for i := range 4 {
		rangeIs(t, slow, levelNumbers(i)[1], 0, 65536)
	}
}

// P4.1: a P that is equal to, or less than, that of the level ahead.
func TestLevelsGetSlower(t *testing.T) {
	for _, levels := range [][]api.Level{
		{{P: 1}, {P: 1}}, {{P: 2}, {P: 1}}, {{P: 256}, {P: 256}}, {{P: 256}, {P: 1}},
		{{P: 1}, {P: 2}, {P: 2}}, {{P: 1}, {P: 3}, {P: 2}}, {{P: 1}, {P: 1}, {P: 2}}, {{P: 2}, {P: 1}, {P: 3}},
		{{P: 1}, {P: 2}, {P: 3}, {P: 3}}, {{P: 1}, {P: 2}, {P: 4}, {P: 3}}, {{P: 4}, {P: 3}, {P: 2}, {P: 1}},
		{{P: 1}, {P: 2}, {P: 3}, {P: 1}}, {{P: 1}, {P: 2}, {P: 3}, {P: 257}},
	} {
		checkIs(t, "levels", api.Platform{Levels: levels, Horizon: 1}, api.ErrTable)
	}
	checkIs(t, "the slowest", api.Platform{Levels: []api.Level{{P: 253}, {P: 254}, {P: 255}, {P: 256}}, Horizon: 1}, api.OK)
}

// P4.1: up to Crit, E less P times Idle is at most what it is of the level
// ahead; behind Crit nothing is asked of it.
func TestSlowingPays(t *testing.T) {
	for _, idle := range []int{0, 1, 2, 9, 100} {
		for crit := range 4 {
			for i := 1; i < 4; i++ {
				p := full()
				p.Idle, p.Crit, p.Sleeps = idle, crit, nil
				// Each level is just at what the one ahead of it allows.
				for k := range p.Levels {
					p.Levels[k].E = 50 + p.Levels[k].P*idle
				}
				checkIs(t, "all at the edge", p, api.OK)
				for k := i; k < 4; k++ {
					p.Levels[k].E++
				}
				checkIs(t, fmt.Sprint("level ", i, " one above, Crit ", crit), p, when(i > crit))
				for k := i; k < 4; k++ {
					p.Levels[k].E -= 2
				}
				checkIs(t, fmt.Sprint("level ", i, " one below, Crit ", crit), p, api.OK)
			}
		}
	}
}

// P4.1: the level ahead counts, not the first one; and the greatest numbers.
func TestSlowingPaysEdges(t *testing.T) {
	p := api.Platform{Levels: []api.Level{{P: 1, E: 9}, {P: 2, E: 5}, {P: 3, E: 6}}, Crit: 2, Horizon: 1}
	checkIs(t, "above the one ahead, below the first", p, api.ErrTable)
	p.Crit = 1
	checkIs(t, "the same behind Crit", p, api.OK)
	p = api.Platform{Levels: []api.Level{{P: 255, E: 0}, {P: 256, E: 65536}}, Idle: 65536, Crit: 1, Horizon: 1}
	checkIs(t, "the greatest, at the edge", p, api.OK)
	p.Idle--
	checkIs(t, "the greatest, one above", p, api.ErrTable)
	p = api.Platform{Levels: []api.Level{{P: 1, E: 65536}, {P: 256, E: 0}}, Idle: 65536, Crit: 1, Horizon: 1}
	checkIs(t, "the farthest apart", p, api.OK)
	p = api.Platform{Levels: []api.Level{{P: 1, E: 0}, {P: 2, E: 1}}, Crit: 1, Horizon: 1}
	checkIs(t, "nothing for being idle", p, api.ErrTable)
}

// oneSleep makes machines whose sleep state i of three is s, and the others
// ask for nothing.
func oneSleep(i, idle int, s api.Sleep) func() api.Platform {
	return func() api.Platform {
		p := least()
		p.Idle = idle
		p.Sleeps = slices.Repeat([]api.Sleep{{Even: 1}}, 3)
		p.Sleeps[i] = s
		return p
	}
}

// P4.1: the numbers of a sleep state, be it the first, the second or the
// last one, at the ends of their ranges, outside of them, and at the ends
// of int.
func TestSleepRanges(t *testing.T) {
	for i := range 3 {
		n := sleepNumbers(i)
		rangeIs(t, oneSleep(i, 7, api.Sleep{Even: 9}), n[0], 0, 7)
		rangeIs(t, oneSleep(i, 65536, api.Sleep{Even: 9}), n[0], 0, 65536)
		rangeIs(t, oneSleep(i, 7, api.Sleep{Even: 1000}), n[1], 0, 256)
		rangeIs(t, oneSleep(i, 7, api.Sleep{Even: 1000}), n[2], 0, 256)
		rangeIs(t, oneSleep(i, 65536, api.Sleep{Even: 9}), n[3], 0, 65536)
		rangeIs(t, oneSleep(i, 65536, api.Sleep{Even: 9}), n[4], 0, 65536)
		rangeIs(t, oneSleep(i, 65536, api.Sleep{}), n[5], 1, 16384)
		rangeIs(t, oneSleep(i, 0, api.Sleep{}), n[5], 1, 16384)
	}
}

// P4.1: a sleep state's Even is at least its Enter and Exit together.
func TestSleepEven(t *testing.T) {
	for i := range 3 {
		for _, c := range [][2]int{{1, 0}, {0, 1}, {1, 1}, {2, 7}, {256, 0}, {0, 256}, {256, 256}} {
			s := api.Sleep{Enter: c[0], Exit: c[1], Even: c[0] + c[1]}
			checkIs(t, "Even is both", oneSleep(i, 3, s)(), api.OK)
			s.Even++
			checkIs(t, "Even is one more", oneSleep(i, 3, s)(), api.OK)
			s.Even -= 2
			checkIs(t, "Even is one less", oneSleep(i, 3, s)(), api.ErrTable)
		}
	}
}

// P4.1: a stay of Even in a sleep state costs at most Idle times Even.
func TestSleepCost(t *testing.T) {
	for i := range 3 {
		for _, c := range []struct {
			idle int
			s    api.Sleep
		}{
			{1, api.Sleep{Enter: 1, Exit: 1, EnterE: 2, ExitE: 2, Even: 4}},
			{1, api.Sleep{EnterE: 1, Even: 1}},
			{5, api.Sleep{ExitE: 10, Even: 2}},
			{5, api.Sleep{Power: 5, Even: 7}},
			{5, api.Sleep{Power: 4, EnterE: 3, ExitE: 4, Even: 7}},
			{5, api.Sleep{Power: 3, Enter: 2, Exit: 3, EnterE: 11, ExitE: 28, Even: 12}},
			{5, api.Sleep{Power: 5, Enter: 2, Exit: 3, EnterE: 25, Even: 12}},
			{5, api.Sleep{Power: 5, Enter: 2, Exit: 3, EnterE: 10, ExitE: 15, Even: 5}},
			{0, api.Sleep{Even: 16384}},
			{65536, api.Sleep{Power: 65536, Even: 16384}},
			{65536, api.Sleep{Power: 65536, Enter: 1, Exit: 1, EnterE: 65536, ExitE: 65536, Even: 16384}},
		} {
			checkIs(t, "just at it", oneSleep(i, c.idle, c.s)(), api.OK)
			above := c.s
			above.EnterE++
			checkIs(t, "EnterE one above", oneSleep(i, c.idle, above)(), api.ErrTable)
			above = c.s
			above.ExitE++
			checkIs(t, "ExitE one above", oneSleep(i, c.idle, above)(), api.ErrTable)
		}
	}
}

// oneDevice makes machines whose device i of three is d, and the others ask
// for nothing.
func oneDevice(i int, d api.Device) func() api.Platform {
	return func() api.Platform {
		p := least()
		p.Devices = slices.Repeat([]api.Device{{Even: 1}}, 3)
		p.Devices[i] = d
		return p
	}
}

// P4.1: the numbers of a device, be it the first, the second or the last
// one, at the ends of their ranges, outside of them, and at the ends of int.
func TestDeviceRanges(t *testing.T) {
	for i := range 3 {
		n := deviceNumbers(i)
		rangeIs(t, oneDevice(i, api.Device{Even: 9}), n[0], 0, 65536)
		rangeIs(t, oneDevice(i, api.Device{Off: 7, Even: 9}), n[0], 7, 65536)
		rangeIs(t, oneDevice(i, api.Device{On: 7, Even: 9}), n[1], 0, 7)
		rangeIs(t, oneDevice(i, api.Device{On: 65536, Even: 9}), n[1], 0, 65536)
		rangeIs(t, oneDevice(i, api.Device{On: 7, Even: 1000}), n[2], 0, 256)
		rangeIs(t, oneDevice(i, api.Device{On: 7, Even: 1000}), n[3], 0, 256)
		rangeIs(t, oneDevice(i, api.Device{On: 65536, Even: 9}), n[4], 0, 65536)
		rangeIs(t, oneDevice(i, api.Device{On: 65536, Even: 9}), n[5], 0, 65536)
		rangeIs(t, oneDevice(i, api.Device{On: 65536}), n[6], 1, 16384)
		rangeIs(t, oneDevice(i, api.Device{}), n[6], 1, 16384)
	}
}

// P4.1: a device's Even is at least its Down and Up together.
func TestDeviceEven(t *testing.T) {
	for i := range 3 {
		for _, c := range [][2]int{{1, 0}, {0, 1}, {1, 1}, {2, 7}, {256, 0}, {0, 256}, {256, 256}} {
			d := api.Device{On: 3, Down: c[0], Up: c[1], Even: c[0] + c[1]}
			checkIs(t, "Even is both", oneDevice(i, d)(), api.OK)
			d.Even++
			checkIs(t, "Even is one more", oneDevice(i, d)(), api.OK)
			d.Even -= 2
			checkIs(t, "Even is one less", oneDevice(i, d)(), api.ErrTable)
		}
	}
}

// P4.1: a device that is away for its Even costs at most On times Even,
// whatever Idle is.
func TestDeviceCost(t *testing.T) {
	for i := range 3 {
		for _, d := range []api.Device{
			{On: 1, Down: 1, Up: 1, DownE: 2, UpE: 2, Even: 4},
			{On: 1, DownE: 1, Even: 1},
			{On: 5, UpE: 10, Even: 2},
			{On: 5, Off: 5, Even: 7},
			{On: 5, Off: 4, DownE: 3, UpE: 4, Even: 7},
			{On: 5, Off: 3, Down: 2, Up: 3, DownE: 11, UpE: 28, Even: 12},
			{On: 5, Off: 5, Down: 2, Up: 3, DownE: 25, Even: 12},
			{On: 5, Off: 5, Down: 2, Up: 3, DownE: 10, UpE: 15, Even: 5},
			{Even: 16384},
			{On: 65536, Off: 65536, Even: 16384},
			{On: 65536, Off: 65536, Down: 1, Up: 1, DownE: 65536, UpE: 65536, Even: 16384},
		} {
			for _, idle := range []int{0, 65536} {
				at := func(d api.Device) api.Platform {
					p := oneDevice(i, d)()
					p.Idle = idle
					return p
				}
				checkIs(t, "just at it", at(d), api.OK)
				above := d
				above.DownE++
				checkIs(t, "DownE one above", at(above), api.ErrTable)
				above = d
				above.UpE++
				checkIs(t, "UpE one above", at(above), api.ErrTable)
			}
		}
	}
}

// R1, P4.1: any one number, and any two, at the ends of int: ErrTable, and
// no wrap-round of two that hides a fault.
func TestEndsOfInt(t *testing.T) {
	base := full()
	all := allNumbers(base)
	for i, one := range all {
		for _, x := range ends {
			p := full()
			*one.at(&p) = x
			checkIs(t, fmt.Sprint(one.name, " ", x), p, api.ErrTable)
			for _, other := range all[:i] {
				for _, y := range ends {
					p := full()
					*one.at(&p), *other.at(&p) = x, y
					if got := Check(p); got != api.ErrTable {
						t.Fatalf("%s %d, %s %d: Check is %d", one.name, x, other.name, y, got)
					}
				}
			}
		}
	}
}

// R1: long lists at the ends of int.
func TestLongLists(t *testing.T) {
	for _, x := range append(slices.Clone(ends), 0, 1, 2) {
		p := api.Platform{
			Levels:  slices.Repeat([]api.Level{{P: x, E: x}}, 50),
			Sleeps:  slices.Repeat([]api.Sleep{{Power: x, Enter: x, Exit: x, EnterE: x, ExitE: x, Even: x}}, 50),
			Devices: slices.Repeat([]api.Device{{On: x, Off: x, Down: x, Up: x, DownE: x, UpE: x, Even: x}}, 50),
			Idle:    x, Crit: x, Switch: x, SwitchE: x, Sems: x, Horizon: x,
		}
		checkIs(t, "all of it", p, api.ErrTable)
		p.Levels, p.Sleeps, p.Devices = p.Levels[:2], p.Sleeps[:2], p.Devices[:2]
		checkIs(t, "two of each", p, api.ErrTable)
	}
}

// in says whether x is from low to high, as the plain form of Check asks it.
func in(x, low, high int) bool { return x >= low && x <= high }

// atMost says whether the sum of some products is at most another product,
// in numbers that do not wrap round.
func atMost(bound [2]int, products ...[2]int) bool {
	sum := new(big.Int)
	for _, c := range products {
		sum.Add(sum, new(big.Int).Mul(big.NewInt(int64(c[0])), big.NewInt(int64(c[1]))))
	}
	return sum.Cmp(new(big.Int).Mul(big.NewInt(int64(bound[0])), big.NewInt(int64(bound[1])))) <= 0
}

// plain is P4.1, sentence by sentence.
func plain(p api.Platform) bool {
	ok := in(len(p.Levels), 1, api.MaxLevels)
	for i, l := range p.Levels {
		ok = ok && in(l.P, 1, api.MaxLatency) && in(l.E, 0, api.MaxPower)
		ok = ok && (i == 0 || l.P > p.Levels[i-1].P)
	}
	ok = ok && in(p.Idle, 0, api.MaxPower) && in(p.Crit, 0, len(p.Levels)-1)
	for i := 1; ok && i <= p.Crit; i++ {
		l, a := p.Levels[i], p.Levels[i-1]
		ok = atMost([2]int{a.E, 1}, [2]int{l.E, 1}, [2]int{-l.P, p.Idle}, [2]int{a.P, p.Idle})
	}
	ok = ok && in(p.Switch, 0, api.MaxLatency) && in(p.SwitchE, 0, api.MaxPower)
	ok = ok && in(p.Sems, 0, api.MaxSems) && in(p.Horizon, 1, api.MaxHorizon)
	ok = ok && len(p.Sleeps) <= api.MaxSleeps && len(p.Devices) <= api.MaxDevices
	for _, s := range p.Sleeps {
		ok = ok && in(s.Power, 0, p.Idle) && in(s.Enter, 0, api.MaxLatency) && in(s.Exit, 0, api.MaxLatency)
		ok = ok && in(s.EnterE, 0, api.MaxPower) && in(s.ExitE, 0, api.MaxPower)
		ok = ok && in(s.Even, 1, api.MaxHorizon) && s.Even >= s.Enter+s.Exit
		ok = ok && atMost([2]int{p.Idle, s.Even}, [2]int{s.EnterE, 1}, [2]int{s.ExitE, 1}, [2]int{s.Power, s.Even - s.Enter - s.Exit})
	}
	for _, d := range p.Devices {
		ok = ok && in(d.On, 0, api.MaxPower) && in(d.Off, 0, d.On) && in(d.Down, 0, api.MaxLatency) && in(d.Up, 0, api.MaxLatency)
		ok = ok && in(d.DownE, 0, api.MaxPower) && in(d.UpE, 0, api.MaxPower)
		ok = ok && in(d.Even, 1, api.MaxHorizon) && d.Even >= d.Down+d.Up
		ok = ok && atMost([2]int{d.On, d.Even}, [2]int{d.DownE, 1}, [2]int{d.UpE, 1}, [2]int{d.Off, d.Even - d.Down - d.Up})
	}
	return ok
}

// numbers makes numbers that look like any, the same ones each time.
func numbers(seed uint64) func(n int) int {
	return func(n int) int {
		seed = seed*6364136223846793005 + 1442695040888963407
		return int(seed>>33) % n
	}
}

// drawn is a machine of small numbers, of which about half may be.
func drawn(next func(n int) int) api.Platform {
	p := api.Platform{Idle: next(8), Switch: next(3), SwitchE: next(3), Sems: next(4), Horizon: 1 + next(9)}
	pace := 0
	for range 1 + next(4) {
		pace += 1 + next(3)
		p.Levels = append(p.Levels, api.Level{P: pace, E: next(6) + pace*p.Idle*next(9)/7})
	}
	p.Crit = next(len(p.Levels))
	for range next(4) {
		s := api.Sleep{Power: next(p.Idle + 1), Enter: next(4), Exit: next(4), EnterE: next(9), ExitE: next(9)}
		s.Even = s.Enter + s.Exit + next(6)
		p.Sleeps = append(p.Sleeps, s)
	}
	for range next(4) {
		d := api.Device{On: next(8), Down: next(4), Up: next(4), DownE: next(9), UpE: next(9)}
		d.Off, d.Even = next(d.On+1), d.Down+d.Up+next(6)
		p.Devices = append(p.Devices, d)
	}
	return p
}

// P4.1: many machines, and each of them with one number moved by a little
// or to an end of int, against the chapter's sentences one by one.
func TestManyMachines(t *testing.T) {
	next := numbers(4)
	counts := [2]int{}
	for range 60000 {
		p := drawn(next)
		want := plain(p)
		counts[when(want)/api.ErrTable]++
		if got := Check(p); got != when(want) {
			t.Fatalf("Check(%+v) is %d, not %d", p, got, when(want))
		}
		all := allNumbers(p)
		n := all[next(len(all))].at(&p)
		*n += next(5) - 2
		if next(9) == 0 {
			*n = ends[next(len(ends))]
		}
		if got := Check(p); got != when(plain(p)) {
			t.Fatalf("Check(%+v) is %d, not %d", p, got, when(plain(p)))
		}
	}
	if counts[0] < 5000 || counts[1] < 5000 {
		t.Fatalf("of the machines %d may be, %d not: too few of one kind", counts[0], counts[1])
	}
}
