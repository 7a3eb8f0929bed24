package nap

import (
	"fmt"
	"math/big"
	"math/rand/v2"
	"reflect"
	"slices"
	"testing"

	"dormouse/api"
	"dormouse/table"
)

// longest is the longest stay of which the chapter speaks.
const longest = 1 << 30

// machine is one with these sleep states, held to be one that may be. It has a
// level and a device, so that there is more to be left as it was.
func machine(t *testing.T, idle int, sleeps ...api.Sleep) api.Platform {
	t.Helper()
	p := api.Platform{
		Levels: []api.Level{{P: 1, E: 3}}, Sleeps: sleeps,
		Devices: []api.Device{{On: 5, Off: 1, Even: 2}},
		Idle:    idle, Horizon: 9,
	}
	if table.Check(p) != api.OK {
		t.Fatalf("a machine that may not be: %+v", p)
	}
	return p
}

// allowed says whether a sleep state is one of a machine that may be: on the
// one with the greatest Idle, if on any.
func allowed(s api.Sleep) bool {
	p := api.Platform{Levels: []api.Level{{P: 1}}, Idle: api.MaxPower, Horizon: 1, Sleeps: []api.Sleep{s}}
	return table.Check(p) == api.OK
}

// mayBe is a sleep state, held to be allowed.
func mayBe(t *testing.T, s api.Sleep) api.Sleep {
	t.Helper()
	if !allowed(s) {
		t.Fatalf("a sleep state that may not be: %+v", s)
	}
	return s
}

// roomy is a copy of a list, with spare room that is not empty.
func roomy[T any](list []T, filler T) []T {
	if list == nil {
		return nil
	}
	more := append(slices.Clone(list), filler, filler)
	return more[:len(list)]
}

// whole is a copy of a list with its spare room.
func whole[T any](list []T) []T { return slices.Clone(list[:cap(list)]) }

// costIs holds Cost against what is wanted, twice.
func costIs(t *testing.T, s api.Sleep, stay, want int) {
	t.Helper()
	for range 2 {
		if got := Cost(s, stay); got != want {
			t.Fatalf("Cost(%+v, %d) is %d, not %d", s, stay, got, want)
		}
	}
}

// bestIs holds Best against what is wanted, twice, and the machine against what
// it was. What stands in the spare room of its lists would cost nothing.
func bestIs(t *testing.T, p api.Platform, stay, want int, ok bool) {
	t.Helper()
	p.Levels = roomy(p.Levels, api.Level{P: 7})
	p.Sleeps = roomy(p.Sleeps, api.Sleep{})
	p.Devices = roomy(p.Devices, api.Device{})
	levels, sleeps, devices := whole(p.Levels), whole(p.Sleeps), whole(p.Devices)
	was := p
	for range 2 {
		if got, gotOK := Best(p, stay); got != want || gotOK != ok {
			t.Fatalf("Best(%+v, %d) is %d, %v, not %d, %v", p, stay, got, gotOK, want, ok)
		}
		if !reflect.DeepEqual(p, was) || !slices.Equal(levels, whole(p.Levels)) ||
			!slices.Equal(sleeps, whole(p.Sleeps)) || !slices.Equal(devices, whole(p.Devices)) {
			t.Fatalf("Best has changed what it was handed: %+v", p)
		}
	}
}

// takes holds that Best takes the state with that number.
func takes(t *testing.T, p api.Platform, stay, want int) {
	t.Helper()
	bestIs(t, p, stay, want, true)
}

// takesNone holds that Best takes none: a false, and 0 beside it.
func takesNone(t *testing.T, p api.Platform, stay int) {
	t.Helper()
	bestIs(t, p, stay, 0, false)
}

// counted is what a stay costs, quantum by quantum: those that are left, when
// the way in and then the way out have taken theirs, cost Power.
func counted(s api.Sleep, stay int) int {
	sum := s.EnterE + s.ExitE
	ways := s.Enter + s.Exit
	for range stay {
		if ways > 0 {
			ways--
		} else {
			sum += s.Power
		}
	}
	return sum
}

// exact is what a stay costs, in numbers that do not overflow.
func exact(s api.Sleep, stay int) *big.Int {
	left := new(big.Int).Sub(big.NewInt(int64(stay)), big.NewInt(int64(s.Enter)))
	left.Sub(left, big.NewInt(int64(s.Exit)))
	if left.Sign() < 0 {
		left.SetInt64(0)
	}
	sum := left.Mul(left, big.NewInt(int64(s.Power)))
	sum.Add(sum, big.NewInt(int64(s.EnterE)))
	return sum.Add(sum, big.NewInt(int64(s.ExitE)))
}

// plainBest looks at each state from the last one to the first: one that costs
// no more than all behind it is taken.
func plainBest(p api.Platform, stay int) (int, bool) {
	best, ok := 0, false
	var least *big.Int
	for n := len(p.Sleeps) - 1; n >= 0; n-- {
		s := p.Sleeps[n]
		if stay < s.Even {
			continue
		}
		if cost := exact(s, stay); least == nil || cost.Cmp(least) <= 0 {
			best, ok, least = n, true, cost
		}
	}
	return best, ok
}

// P8.1: what a stay costs, by hand.
func TestCostByHand(t *testing.T) {
	s := mayBe(t, api.Sleep{Power: 7, Enter: 2, Exit: 3, EnterE: 100, ExitE: 1000, Even: 9})
	for stay, want := range []int{1100, 1100, 1100, 1100, 1100, 1100, 1107, 1114, 1121, 1128, 1135} {
		costIs(t, s, stay, want)
	}
	costIs(t, s, longest, 1100+7*(1<<30-5))
}

// P8.1: Even changes nothing, neither below it nor from it on.
func TestCostWithoutEven(t *testing.T) {
	for _, even := range []int{5, 6, 9, 1000, api.MaxHorizon} {
		s := mayBe(t, api.Sleep{Power: 7, Enter: 2, Exit: 3, EnterE: 10, ExitE: 20, Even: even})
		for _, stay := range []int{0, 4, 5, 6, 8, 9, 10, 999, 1000, 1001} {
			costIs(t, s, stay, 30+7*max(0, stay-5))
		}
	}
}

// edges are stays around Enter and Exit together, around each of them alone,
// around Even, and at the ends.
func edges(s api.Sleep) []int {
	list := []int{0, 1, longest - 1, longest}
	for _, at := range []int{s.Enter, s.Exit, s.Enter + s.Exit, s.Even} {
		for stay := at - 1; stay <= at+1; stay++ {
			if stay >= 0 {
				list = append(list, stay)
			}
		}
	}
	return list
}

// states are sleep states with each Enter and Exit from the least to the
// greatest, and each Power, EnterE and ExitE, so far as they may be.
func states() []api.Sleep {
	latencies := []int{0, 1, 2, api.MaxLatency - 1, api.MaxLatency}
	powers := []int{0, 1, api.MaxPower - 1, api.MaxPower}
	var list []api.Sleep
	for _, enter := range latencies {
		for _, exit := range latencies {
			for _, power := range powers {
				for _, enterE := range powers {
					for _, exitE := range powers {
						for _, even := range []int{max(1, enter+exit), api.MaxHorizon} {
							list = append(list, api.Sleep{Power: power, Enter: enter, Exit: exit, EnterE: enterE, ExitE: exitE, Even: even})
						}
					}
				}
			}
		}
	}
	return list
}

// P8.1: at 0, around Enter and Exit together, at Even and at 2^30, with each
// number at its least and at its greatest; nothing overflows.
func TestCostAtEdges(t *testing.T) {
	held := 0
	for _, s := range states() {
		if !allowed(s) {
			continue
		}
		held++
		for _, stay := range edges(s) {
			want := exact(s, stay)
			if !want.IsInt64() {
				t.Fatalf("the cost of %+v for %d is no int", s, stay)
			}
			costIs(t, s, stay, int(want.Int64()))
			if stay <= s.Even+1 && stay < 600 && counted(s, stay) != int(want.Int64()) {
				t.Fatalf("the oracles do not agree on %+v for %d", s, stay)
			}
		}
	}
	if held < 1000 {
		t.Fatalf("only %d states may be", held)
	}
}

// P8.1: a stay that is shorter than Enter and Exit costs what they do, with
// one of them 0 and with none.
func TestCostOfShortStays(t *testing.T) {
	for _, ways := range [][2]int{{0, 256}, {256, 0}, {256, 256}, {1, 0}, {0, 1}, {255, 1}} {
		s := mayBe(t, api.Sleep{Power: 11, Enter: ways[0], Exit: ways[1], EnterE: 3, ExitE: 4, Even: 600})
		both := ways[0] + ways[1]
		for stay := range both + 1 {
			costIs(t, s, stay, 7)
		}
		costIs(t, s, both+1, 18)
		costIs(t, s, both+2, 29)
	}
	free := mayBe(t, api.Sleep{Power: 11, Even: 1})
	costIs(t, free, 0, 0)
	costIs(t, free, 1, 11)
	costIs(t, free, longest, 11<<30)
}

// P8.1: the greatest that there may be.
func TestGreatestCost(t *testing.T) {
	s := mayBe(t, api.Sleep{
		Power: api.MaxPower, Enter: 1, Exit: 1,
		EnterE: api.MaxPower, ExitE: api.MaxPower, Even: 2,
	})
	costIs(t, s, longest, 1<<46)
	s.Enter, s.Exit, s.Even = api.MaxLatency, api.MaxLatency, 2*api.MaxLatency
	costIs(t, mayBe(t, s), longest, 1<<17+1<<16*(1<<30-1<<9))
	still := mayBe(t, api.Sleep{EnterE: api.MaxPower, ExitE: api.MaxPower, Even: api.MaxHorizon})
	costIs(t, still, longest, 1<<17)
}

// P8.1: for many states and stays, against a count quantum by quantum.
func TestCostOfMany(t *testing.T) {
	r := rand.New(rand.NewPCG(8, 1))
	held := 0
	for range 20000 {
		s := randomSleep(r, 1+r.IntN(40), api.MaxPower)
		if !allowed(s) {
			continue
		}
		held++
		stay := r.IntN(100)
		costIs(t, s, stay, counted(s, stay))
	}
	if held < 10000 {
		t.Fatalf("only %d states may be", held)
	}
}

// P8.2: the chapter's example: no Even is as short as 0.
func TestBestOfNoStay(t *testing.T) {
	free := api.Sleep{Even: 1}
	for _, sleeps := range [][]api.Sleep{nil, {}, {free}, {free, free}, {free, free, free}} {
		takesNone(t, machine(t, 9, sleeps...), 0)
	}
	takes(t, machine(t, 9, free), 1, 0)
}

// P8.2: a machine that has no sleep state takes none, however long the stay.
func TestBestWithoutStates(t *testing.T) {
	for _, stay := range []int{0, 1, 2, 1000, api.MaxHorizon, longest - 1, longest} {
		takesNone(t, machine(t, 9), stay)
		takesNone(t, machine(t, 9, []api.Sleep{}...), stay)
		takesNone(t, machine(t, 0), stay)
	}
}

// P8.2: a state may be taken from its Even on.
func TestBestAroundEven(t *testing.T) {
	for _, even := range []int{1, 2, 7, 512, api.MaxHorizon - 1, api.MaxHorizon} {
		p := machine(t, 9, api.Sleep{Power: 1, Even: even})
		takesNone(t, p, even-1)
		takes(t, p, even, 0)
		takes(t, p, even+1, 0)
		takes(t, p, longest, 0)
	}
	// Even above Enter and Exit together, and just those: it is Even that counts.
	long := machine(t, 9, api.Sleep{Power: 1, Enter: 2, Exit: 3, Even: 20})
	just := machine(t, 9, api.Sleep{Power: 1, Enter: 2, Exit: 3, Even: 5})
	for stay := range 30 {
		bestIs(t, long, stay, 0, stay >= 20)
		bestIs(t, just, stay, 0, stay >= 5)
	}
}

// P8.2: two states, and three, around each Even: the deeper ones come later.
func TestBestAroundEachEven(t *testing.T) {
	shallow := api.Sleep{Power: 30, Even: 4}
	middle := api.Sleep{Power: 10, Enter: 1, Exit: 1, EnterE: 40, ExitE: 20, Even: 10}
	deep := api.Sleep{Power: 1, Enter: 5, Exit: 5, EnterE: 90, ExitE: 60, Even: 20}
	two, three := machine(t, 50, shallow, middle), machine(t, 50, shallow, middle, deep)
	back := machine(t, 50, deep, middle, shallow)
	for _, c := range []struct{ stay, two, three, back int }{
		{3, -1, -1, -1}, {4, 0, 0, 2}, {5, 0, 0, 2},
		{9, 0, 0, 2}, {10, 1, 1, 1}, {11, 1, 1, 1},
		{19, 1, 1, 1}, {20, 1, 2, 0}, {21, 1, 2, 0}, {longest, 1, 2, 0},
	} {
		bestIs(t, two, c.stay, max(0, c.two), c.two >= 0)
		bestIs(t, three, c.stay, max(0, c.three), c.three >= 0)
		bestIs(t, back, c.stay, max(0, c.back), c.back >= 0)
	}
}

// orders are the ways to lay three things in a row.
func orders() [][3]int {
	return [][3]int{{0, 1, 2}, {0, 2, 1}, {1, 0, 2}, {1, 2, 0}, {2, 0, 1}, {2, 1, 0}}
}

// P8.2: the cheapest one may be the first, the middle and the last one.
func TestBestAtEachPlace(t *testing.T) {
	three := []api.Sleep{{Power: 2, Even: 3}, {Power: 5, Even: 3}, {Power: 7, Even: 3}}
	for _, o := range orders() {
		p := machine(t, 9, three[o[0]], three[o[1]], three[o[2]])
		for _, stay := range []int{3, 4, 1000, longest} {
			takes(t, p, stay, slices.Index(o[:], 0))
		}
		takesNone(t, p, 2)
	}
	for place := range 2 {
		pair := []api.Sleep{three[place], three[1-place]}
		takes(t, machine(t, 9, pair...), 3, place)
	}
}

// P8.2: one that would be cheaper is not taken while its Even is above stay,
// be it the first, the middle or the last one.
func TestCheaperOneNotYet(t *testing.T) {
	three := []api.Sleep{{Power: 1, Even: 8}, {Power: 5, Even: 3}, {Power: 7, Even: 2}}
	for _, o := range orders() {
		p := machine(t, 9, three[o[0]], three[o[1]], three[o[2]])
		takesNone(t, p, 1)
		takes(t, p, 2, slices.Index(o[:], 2))
		takes(t, p, 3, slices.Index(o[:], 1))
		takes(t, p, 7, slices.Index(o[:], 1))
		takes(t, p, 8, slices.Index(o[:], 0))
	}
}

// P8.2: of several with the same Cost the first one is taken: of two, beside
// one that costs more, less but not yet, or less.
func TestFirstOfTwoAlike(t *testing.T) {
	a, b := api.Sleep{Power: 3, Even: 2}, api.Sleep{Power: 1, EnterE: 6, ExitE: 2, Even: 4}
	if Cost(a, 4) != Cost(b, 4) {
		t.Fatal("they do not cost the same")
	}
	takes(t, machine(t, 9, a, b), 4, 0)
	takes(t, machine(t, 9, b, a), 4, 0)
	for _, third := range []api.Sleep{{Power: 4, Even: 1}, {Power: 0, Even: 5}} {
		for _, pair := range [][2]api.Sleep{{a, b}, {b, a}, {a, a}} {
			takes(t, machine(t, 9, pair[0], pair[1], third), 4, 0)
			takes(t, machine(t, 9, pair[0], third, pair[1]), 4, 0)
			takes(t, machine(t, 9, third, pair[0], pair[1]), 4, 1)
		}
	}
	less := api.Sleep{Power: 2, Even: 4}
	takes(t, machine(t, 9, a, b, less), 4, 2)
	takes(t, machine(t, 9, a, less, b), 4, 1)
	takes(t, machine(t, 9, less, a, b), 4, 0)
}

// P8.2: of all three with the same Cost the first one is taken, of those that
// may be.
func TestFirstOfThreeAlike(t *testing.T) {
	three := []api.Sleep{
		{Power: 4, Even: 5}, {Power: 2, EnterE: 10, Even: 3}, {Power: 1, Enter: 1, ExitE: 16, Even: 4},
	}
	for _, o := range orders() {
		p := machine(t, 9, three[o[0]], three[o[1]], three[o[2]])
		for _, s := range three {
			costIs(t, s, 5, 20)
		}
		takes(t, p, 5, 0)
	}
	same := api.Sleep{Power: 4, Even: 5}
	p := machine(t, 9, same, same, same)
	takesNone(t, p, 4)
	takes(t, p, 5, 0)
	takes(t, p, longest, 0)
	// Free ones: what costs nothing is the least there is, and still the first
	// that may be taken.
	takes(t, machine(t, 9, api.Sleep{Even: 9}, api.Sleep{Even: 2}, api.Sleep{Even: 1}), 2, 1)
	takes(t, machine(t, 0, api.Sleep{Even: 1}, api.Sleep{Even: 1}, api.Sleep{Even: 1}), 1, 0)
}

// P8.2: the first state may not be taken, and a later one may.
func TestLaterOneAlone(t *testing.T) {
	early, late := api.Sleep{Power: 8, Even: 3}, api.Sleep{Power: 0, Even: 9}
	takes(t, machine(t, 9, late, early), 3, 1)
	takes(t, machine(t, 9, late, early, late), 8, 1)
	takes(t, machine(t, 9, late, late, early), 5, 2)
	takes(t, machine(t, 9, early, late, late), 5, 0)
	takesNone(t, machine(t, 9, late, late, early), 2)
}

// P8.2: at the longest stay what is asleep for a quantum counts, and not what
// the ways in and out cost; costs that differ by 1 differ.
func TestBestOfLongestStay(t *testing.T) {
	top := api.Sleep{Power: api.MaxPower, Enter: 1, Exit: 1, EnterE: api.MaxPower, ExitE: api.MaxPower, Even: 2}
	below := top
	below.ExitE--
	takes(t, machine(t, api.MaxPower, top, top, below), longest, 2)
	takes(t, machine(t, api.MaxPower, top, below, top), longest, 1)
	takes(t, machine(t, api.MaxPower, below, top, top), longest, 0)
	dear := api.Sleep{EnterE: api.MaxPower, ExitE: api.MaxPower, Even: api.MaxHorizon}
	cheap := api.Sleep{Power: 1, Even: 1}
	p := machine(t, api.MaxPower, cheap, dear)
	takes(t, p, 1<<17, 0)
	takes(t, p, 1<<17+1, 1)
	takes(t, p, longest, 1)
}

// P8.2: a state is judged by this stay, not by its Power or its ways alone.
func TestBestHangsOnStay(t *testing.T) {
	quick := api.Sleep{Power: 10, Even: 1}
	slow := api.Sleep{Power: 1, Enter: 2, Exit: 2, EnterE: 60, ExitE: 40, Even: 5}
	for stay := 1; stay < 30; stay++ {
		want := 0
		if stay >= 5 && 100+stay-4 < 10*stay {
			want = 1
		}
		takes(t, machine(t, 50, quick, slow), stay, want)
	}
}

// randomSleep is a sleep state in its ranges, of numbers that are small enough
// for costs to be the same now and then; it may be on many a machine.
func randomSleep(r *rand.Rand, even, power int) api.Sleep {
	s := api.Sleep{Power: r.IntN(power + 1), EnterE: r.IntN(power + 1), ExitE: r.IntN(power + 1), Even: even}
	s.Enter = r.IntN(min(even, api.MaxLatency) + 1)
	s.Exit = r.IntN(min(even-s.Enter, api.MaxLatency) + 1)
	return s
}

// randomMachine is a machine that may be, with up to three sleep states.
func randomMachine(r *rand.Rand, longestEven, power int) api.Platform {
	for {
		p := api.Platform{Levels: []api.Level{{P: 1}}, Idle: r.IntN(api.MaxPower + 1), Horizon: 1}
		for range r.IntN(api.MaxSleeps + 1) {
			p.Sleeps = append(p.Sleeps, randomSleep(r, 1+r.IntN(longestEven), power))
		}
		if table.Check(p) == api.OK {
			return p
		}
	}
}

// P8.1, P8.2: many machines and stays, against a plain look at each state.
func TestBestOfMany(t *testing.T) {
	seen := map[string]int{}
	r := rand.New(rand.NewPCG(8, 2))
	for _, c := range []struct{ even, power, stay int }{
		{6, 2, 8}, {12, 9, 20}, {600, 300, 900},
		{api.MaxHorizon, api.MaxPower, api.MaxHorizon + 100}, {api.MaxHorizon, api.MaxPower, longest},
	} {
		for range 8000 {
			p := randomMachine(r, c.even, c.power)
			stay := r.IntN(c.stay + 1)
			if len(p.Sleeps) > 0 && r.IntN(3) == 0 {
				stay = p.Sleeps[r.IntN(len(p.Sleeps))].Even - r.IntN(2)
			}
			want, ok := plainBest(p, stay)
			bestIs(t, p, stay, want, ok)
			seen[fmt.Sprint(len(p.Sleeps), want, ok)]++
			for _, s := range p.Sleeps {
				costIs(t, s, stay, int(exact(s, stay).Int64()))
			}
		}
	}
	for _, kind := range []string{
		"0 0 false", "1 0 false", "1 0 true", "2 0 false", "2 0 true", "2 1 true",
		"3 0 false", "3 0 true", "3 1 true", "3 2 true",
	} {
		if seen[kind] < 50 {
			t.Errorf("only %d of %q", seen[kind], kind)
		}
	}
	if len(seen) != 10 {
		t.Errorf("what was seen: %v", seen)
	}
}
