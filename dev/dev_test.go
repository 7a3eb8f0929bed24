package dev

import (
	"fmt"
	"math/big"
	"math/rand/v2"
	"testing"

	"dormouse/api"
	"dormouse/table"
)

// example is the device of the chapter's examples, with powers of which no
// two are the same.
var example = api.Device{On: 50, Off: 3, Down: 2, Up: 3, DownE: 70, UpE: 110, Even: 10}

// latencies are what is taken for Down and Up: the least, and the greatest
// that the table allows.
var latencies = []int{0, 1, 2, api.MaxLatency - 1, api.MaxLatency}

// allowed says whether a device is one of which the chapter speaks.
func allowed(d api.Device) bool {
	p := api.Platform{Levels: []api.Level{{P: 1}}, Horizon: 1, Devices: []api.Device{d}}
	return table.Check(p) == api.OK
}

// mayBe is d, held to be allowed.
func mayBe(t *testing.T, d api.Device) api.Device {
	t.Helper()
	if !allowed(d) {
		t.Fatalf("a device that may not be: %+v", d)
	}
	return d
}

// spokenOf says whether the chapter speaks of x as a Dev of d.
func spokenOf(d api.Device, x Dev) bool {
	return x == Dev{0, 0} || x.From >= 0 && x.Until <= api.Never && x.Until >= x.From+d.Down+d.Up
}

// devices are some with each Down and Up of latencies; their Even is the
// least, one above it, and the greatest that the table allows.
func devices(t *testing.T) []api.Device {
	t.Helper()
	var list []api.Device
	for _, down := range latencies {
		for _, up := range latencies {
			least := max(1, down+up)
			for _, even := range []int{least, least + 1, api.MaxHorizon} {
				d := api.Device{On: 1000, Off: 7, Down: down, Up: up, DownE: 200, UpE: 31, Even: even}
				list = append(list, mayBe(t, d))
			}
		}
	}
	return list
}

// stays are Devs of d: early and late ones, Off at no moment, at one, and at
// many, and such as have not been called back.
func stays(d api.Device) []Dev {
	var list []Dev
	for _, from := range []int{0, 1, 100, 1 << 30, 1<<32 + 5, api.Never - 1000, api.Never} {
		for _, off := range []int{0, 1, 2, 700} {
			x := Dev{from, from + d.Down + off + d.Up}
			if x != (Dev{0, 0}) && spokenOf(d, x) {
				list = append(list, x)
			}
			x = Dev{api.Never - d.Down - off - d.Up, api.Never}
			list = append(list, x)
		}
		if x := (Dev{from, api.Never}); spokenOf(d, x) {
			list = append(list, x)
		}
	}
	return list
}

// moments are those around each change of a device's state that are from 0 to
// Never, and the ends.
func moments(d api.Device, x Dev) []int {
	var list []int
	for _, at := range []int{0, x.From, x.From + d.Down, x.Until - d.Up, x.Until, api.Never} {
		for now := at - 2; now <= at+2; now++ {
			if now >= 0 && now <= api.Never {
				list = append(list, now)
			}
		}
	}
	return list
}

// walked is the state at now of a device that was away: the stages that it
// goes through, one behind the other, are counted off.
func walked(d api.Device, x Dev, now int) int {
	if now < x.From {
		return On
	}
	left := now - x.From
	for _, stage := range []struct{ state, quanta int }{
		{Down, d.Down}, {Off, x.Until - x.From - d.Down - d.Up}, {Up, d.Up},
	} {
		if left < stage.quanta {
			return stage.state
		}
		left -= stage.quanta
	}
	return On
}

// stateIs holds State against what is wanted, twice.
func stateIs(t *testing.T, d api.Device, x Dev, now, want int) {
	t.Helper()
	for range 2 {
		if got := State(d, x, now); got != want {
			t.Fatalf("State(%+v, %+v, %d) is %d, not %d", d, x, now, got, want)
		}
	}
}

// goes holds that a device goes away from now until another moment.
func goes(t *testing.T, d api.Device, x Dev, now, until int) {
	t.Helper()
	for range 2 {
		if got, ok := Away(d, x, now, until); got != (Dev{now, until}) || !ok {
			t.Fatalf("Away(%+v, %+v, %d, %d) is %+v, %v: it does not go", d, x, now, until, got, ok)
		}
	}
}

// staysAsItIs holds that a device does not go away: a false, and beside it x itself.
func staysAsItIs(t *testing.T, d api.Device, x Dev, now, until int) {
	t.Helper()
	for range 2 {
		if got, ok := Away(d, x, now, until); got != x || ok {
			t.Fatalf("Away(%+v, %+v, %d, %d) is %+v, %v, not %+v, false", d, x, now, until, got, ok, x)
		}
	}
}

// calledIs holds Call against what is wanted, twice.
func calledIs(t *testing.T, d api.Device, x Dev, now int, want Dev) {
	t.Helper()
	for range 2 {
		if got := Call(d, x, now); got != want {
			t.Fatalf("Call(%+v, %+v, %d) is %+v, not %+v", d, x, now, got, want)
		}
	}
}

// energyIs holds Energy against what is wanted, twice.
func energyIs(t *testing.T, d api.Device, x Dev, now, want int) {
	t.Helper()
	for range 2 {
		if got := Energy(d, x, now); got != want {
			t.Fatalf("Energy(%+v, %+v, %d) is %d, not %d", d, x, now, got, want)
		}
	}
}

// P7.1: the four states' numbers, of which each fits into any kind of number.
func TestStateNumbers(t *testing.T) {
	if On != 1 || Off != 2 || Down != 3 || Up != 4 {
		t.Fatal(On, Off, Down, Up)
	}
	const small byte = On + Off + Down + Up
	if small != 10 {
		t.Fatal(small)
	}
}

// P7.1, P7.2: the chapter's first example.
func TestExampleOne(t *testing.T) {
	d := mayBe(t, example)
	staysAsItIs(t, d, Dev{}, 100, 109)
	goes(t, d, Dev{}, 100, 110)
	x := Dev{100, 110}
	for now, want := range map[int]int{
		98: On, 99: On, 100: Down, 101: Down, 102: Off, 103: Off, 104: Off, 105: Off, 106: Off,
		107: Up, 108: Up, 109: Up, 110: On, 111: On,
	} {
		stateIs(t, d, x, now, want)
	}
}

// P7.3: the chapter's second example.
func TestExampleTwo(t *testing.T) {
	x := Dev{100, api.Never}
	calledIs(t, example, x, 104, Dev{100, 110})
	calledIs(t, example, x, 200, Dev{100, 203})
}

// P7.1: a device that never was away is On at every moment.
func TestStateNeverAway(t *testing.T) {
	for _, d := range devices(t) {
		for _, now := range []int{0, 1, 2, d.Down, d.Up, d.Down + d.Up, d.Even, 1 << 20, 1 << 32, api.Never - 1, api.Never} {
			stateIs(t, d, Dev{}, now, On)
		}
	}
}

// P7.1: the moments around each change, written out, of a device with each
// of Down and Up at its least and at its greatest.
func TestStateByHand(t *testing.T) {
	for _, c := range []struct {
		down, up int
		x        Dev
		want     map[int]int
	}{
		{0, 0, Dev{40, 60}, map[int]int{39: On, 40: Off, 59: Off, 60: On}},
		{0, 0, Dev{40, 41}, map[int]int{39: On, 40: Off, 41: On}},
		{0, 0, Dev{40, 40}, map[int]int{39: On, 40: On, 41: On}},
		{1, 0, Dev{40, 60}, map[int]int{39: On, 40: Down, 41: Off, 59: Off, 60: On}},
		{1, 0, Dev{40, 41}, map[int]int{39: On, 40: Down, 41: On}},
		{0, 1, Dev{40, 60}, map[int]int{39: On, 40: Off, 58: Off, 59: Up, 60: On}},
		{0, 1, Dev{40, 41}, map[int]int{39: On, 40: Up, 41: On}},
		{1, 1, Dev{40, 60}, map[int]int{39: On, 40: Down, 41: Off, 58: Off, 59: Up, 60: On}},
		{1, 1, Dev{40, 42}, map[int]int{39: On, 40: Down, 41: Up, 42: On}},
		{256, 256, Dev{1000, 2000}, map[int]int{999: On, 1000: Down, 1255: Down, 1256: Off, 1743: Off, 1744: Up, 1999: Up, 2000: On}},
		{256, 256, Dev{1000, 1512}, map[int]int{999: On, 1000: Down, 1255: Down, 1256: Up, 1511: Up, 1512: On}},
		{256, 0, Dev{1000, 1256}, map[int]int{999: On, 1000: Down, 1255: Down, 1256: On}},
		{0, 256, Dev{1000, 1256}, map[int]int{999: On, 1000: Up, 1255: Up, 1256: On}},
		{2, 3, Dev{0, 10}, map[int]int{0: Down, 1: Down, 2: Off, 6: Off, 7: Up, 9: Up, 10: On}},
		{0, 3, Dev{0, 10}, map[int]int{0: Off, 6: Off, 7: Up, 9: Up, 10: On, api.Never: On}},
	} {
		d := mayBe(t, api.Device{On: 9, Off: 1, Down: c.down, Up: c.up, Even: api.MaxHorizon})
		for now, want := range c.want {
			stateIs(t, d, c.x, now, want)
		}
	}
}

// P7.1: the moments around each change, of all devices and stays, against the
// stages counted off.
func TestStateAtChanges(t *testing.T) {
	for _, d := range devices(t) {
		for _, x := range stays(d) {
			for _, now := range moments(d, x) {
				stateIs(t, d, x, now, walked(d, x, now))
			}
		}
	}
}

// P7.1: every moment from ahead of From to behind Until: each stage lasts as
// long as it should.
func TestStateQuantumByQuantum(t *testing.T) {
	for _, d := range devices(t) {
		for _, off := range []int{0, 1, 300} {
			x := Dev{50, 50 + d.Down + off + d.Up}
			var count [Up + 1]int
			for now := x.From - 50; now < x.Until+50; now++ {
				count[State(d, x, now)]++
			}
			if want := [Up + 1]int{On: 100, Off: off, Down: d.Down, Up: d.Up}; count != want {
				t.Fatalf("%+v, %+v: quanta by state are %v, not %v", d, x, count, want)
			}
		}
	}
}

// P7.1: a Dev that has not been called back ends at Never, as at any other
// moment.
func TestStateUntilNever(t *testing.T) {
	for _, d := range devices(t) {
		for _, x := range []Dev{{0, api.Never}, {7, api.Never}, {1 << 33, api.Never}} {
			beforeNever := Up
			if d.Up == 0 {
				beforeNever = Off
			}
			stateIs(t, d, x, x.From+d.Down, Off)
			stateIs(t, d, x, api.Never-d.Up-1, Off)
			stateIs(t, d, x, api.Never-1, beforeNever)
			stateIs(t, d, x, api.Never, On)
		}
		x := Dev{api.Never - d.Down - d.Up, api.Never}
		stateIs(t, d, x, api.Never, On)
		stateIs(t, d, x, x.From-1, On)
	}
	x := Dev{api.Never - 2, api.Never}
	stateIs(t, api.Device{Down: 2, Even: 2}, x, api.Never-1, Down)
	stateIs(t, api.Device{Up: 2, Even: 2}, x, api.Never-2, Up)
}

// P7.2: what it is at now, of the four: only On lets it go, ahead of From too.
func TestAwayByState(t *testing.T) {
	d := mayBe(t, example)
	for _, until := range []int{200, 1000, api.Never} {
		x := Dev{100, until}
		goes(t, d, x, 0, 10)
		goes(t, d, x, 99, 109)
		goes(t, d, x, 99, api.Never)
		for _, now := range []int{100, 101, 102, 150, until - 4, until - 3, until - 1} {
			staysAsItIs(t, d, x, now, now+9)
			staysAsItIs(t, d, x, now, min(now+10, api.Never))
			staysAsItIs(t, d, x, now, api.Never)
		}
	}
	goes(t, d, Dev{100, 200}, 200, 210)
	goes(t, d, Dev{100, 200}, 201, api.Never)
	staysAsItIs(t, d, Dev{100, 200}, 200, 209)
	staysAsItIs(t, d, Dev{100, 200}, 99, 108)
}

// P7.2: one that was away for no quantum is On again at once.
func TestAwayForNoTime(t *testing.T) {
	d := mayBe(t, api.Device{On: 1, Even: 4})
	for _, now := range []int{29, 30, 31} {
		goes(t, d, Dev{30, 30}, now, now+4)
		staysAsItIs(t, d, Dev{30, 30}, now, now+3)
	}
}

// P7.2: until less now around Even, at Evens from the least to the greatest,
// and at early and late moments.
func TestAwayEven(t *testing.T) {
	for _, d := range devices(t) {
		for _, x := range []Dev{{}, {5, 5 + d.Down + d.Up}, {0, 1000}} {
			for _, now := range []int{1000, 1 << 31, 1<<32 + 1, api.Never - d.Even - 1} {
				staysAsItIs(t, d, x, now, now+d.Even-1)
				goes(t, d, x, now, now+d.Even)
				goes(t, d, x, now, now+d.Even+1)
				goes(t, d, x, now, api.Never)
			}
			now := api.Never - d.Even
			staysAsItIs(t, d, x, now, api.Never-1)
			goes(t, d, x, now, api.Never)
			staysAsItIs(t, d, x, now+1, api.Never)
		}
	}
}

// P7.2: an until that is now, or ahead of it, is never enough.
func TestAwayBackwards(t *testing.T) {
	for _, d := range devices(t) {
		for _, x := range []Dev{{}, {0, 2000}, {api.Never - 512, api.Never}} {
			for _, now := range []int{2000, 2001, 1 << 35, api.Never} {
				for _, until := range []int{now, now - 1, now - d.Even, now - d.Even - 1, now / 2, 1, 0} {
					if until >= 0 {
						staysAsItIs(t, d, x, now, until)
					}
				}
			}
		}
	}
}

// P7.2: the moments 0 and Never.
func TestAwayAtTheEnds(t *testing.T) {
	for _, d := range devices(t) {
		staysAsItIs(t, d, Dev{}, 0, 0)
		staysAsItIs(t, d, Dev{}, 0, d.Even-1)
		goes(t, d, Dev{}, 0, d.Even)
		goes(t, d, Dev{}, 0, api.Never)
		staysAsItIs(t, d, Dev{}, api.Never, api.Never)
		staysAsItIs(t, d, Dev{}, api.Never, 0)
		goes(t, d, Dev{1, api.Never}, 0, api.Never)
		staysAsItIs(t, d, Dev{0, api.Never}, 0, api.Never)
	}
}

// P7.2: what has gone away is a Dev of which the chapter speaks, and away
// from that moment on.
func TestAwayIsSpokenOf(t *testing.T) {
	for _, d := range devices(t) {
		for _, now := range []int{0, 1, 900} {
			for _, until := range []int{now + d.Even, now + d.Even + 5, api.Never} {
				x, ok := Away(d, Dev{}, now, until)
				if !ok || !spokenOf(d, x) || x == (Dev{}) {
					t.Fatalf("%+v: Away at %d, until %d: %+v, %v", d, now, until, x, ok)
				}
				if State(d, x, now) == On || State(d, x, until) != On {
					t.Fatalf("%+v, %+v: it is not away just from %d until %d", d, x, now, until)
				}
			}
		}
	}
}

// P7.3: one that is called already, and one that never was away, stay as they
// are, whenever they are called.
func TestCallAgain(t *testing.T) {
	for _, d := range devices(t) {
		for _, x := range append(stays(d), Dev{}) {
			if x.Until == api.Never {
				continue
			}
			for _, now := range moments(d, x) {
				calledIs(t, d, x, now, x)
			}
		}
		calledIs(t, d, Dev{0, api.Never - 1}, api.Never, Dev{0, api.Never - 1})
		back := Call(d, Dev{30, api.Never}, 5000)
		calledIs(t, d, back, 9000, back)
	}
}

// P7.3: each of the three is the greatest, alone or beside another one.
func TestCallGreatest(t *testing.T) {
	for _, c := range []struct {
		name           string
		down, up, even int
		from, now      int
		want           int
	}{
		{"From + Even", 2, 3, 10, 100, 104, 110},
		{"From + Even, at once", 2, 3, 10, 100, 100, 110},
		{"From + Even, one ahead of equal", 2, 3, 10, 100, 106, 110},
		{"From + Even and now + Up", 2, 3, 10, 100, 107, 110},
		{"now + Up, one behind equal", 2, 3, 10, 100, 108, 111},
		{"now + Up", 2, 3, 10, 100, 200, 203},
		{"now + Up, no Up", 2, 0, 10, 100, 200, 200},
		{"now + Up, no Down", 0, 3, 10, 100, 200, 203},
		{"From + Down + Up and From + Even", 2, 3, 5, 100, 100, 105},
		{"From + Down + Up and From + Even, later", 2, 3, 5, 100, 101, 105},
		{"all three", 2, 3, 5, 100, 102, 105},
		{"now + Up, one behind all three", 2, 3, 5, 100, 103, 106},
		{"From + Even, now ahead of From", 2, 3, 10, 100, 99, 110},
		{"From + Even, now 0", 2, 3, 10, 100, 0, 110},
		{"From + Down + Up, now ahead of From", 2, 3, 5, 100, 40, 105},
		{"From 0", 2, 3, 10, 0, 0, 10},
		{"From 0, Even 1", 0, 0, 1, 0, 0, 1},
		{"now + Up, From 0", 0, 0, 1, 0, 1, 1},
		{"now + Up, From 0, later", 0, 0, 1, 0, 2, 2},
		{"the greatest latencies", 256, 256, 512, 1000, 1256, 1512},
		{"the greatest latencies, later", 256, 256, 512, 1000, 1257, 1513},
		{"the greatest Even", 256, 256, 16384, 1000, 17127, 17384},
		{"the greatest Even, later", 256, 256, 16384, 1000, 17129, 17385},
	} {
		d := mayBe(t, api.Device{On: 9, Off: 1, Down: c.down, Up: c.up, Even: c.even})
		t.Run(c.name, func(t *testing.T) {
			calledIs(t, d, Dev{c.from, api.Never}, c.now, Dev{c.from, c.want})
		})
	}
}

// P7.3: what is called is the least that none of the three goes beyond, and
// has the From that it had; late moments, too, at which it may be Never or
// beyond.
func TestCallAtChanges(t *testing.T) {
	for _, d := range devices(t) {
		for _, x := range stays(d) {
			if x.Until != api.Never {
				continue
			}
			for _, now := range append(moments(d, x), x.From+d.Even-d.Up, x.From+d.Even) {
				if now > api.Never {
					continue
				}
				want := x.From + d.Even
				for _, other := range []int{now + d.Up, x.From + d.Down + d.Up} {
					if other > want {
						want = other
					}
				}
				calledIs(t, d, x, now, Dev{x.From, want})
			}
		}
		calledIs(t, d, Dev{0, api.Never}, api.Never, Dev{0, api.Never + d.Up})
	}
}

// P7.3: from the moment of its Until on, what was called is On, and not ahead
// of that.
func TestCallComesBack(t *testing.T) {
	for _, d := range devices(t) {
		for late := range 3 {
			for _, now := range []int{60 + late, 60 + d.Down + late, 60 + d.Even + late} {
				x := Call(d, Dev{60, api.Never}, now)
				if !spokenOf(d, x) || x.Until-x.From < d.Even || x.Until-now < d.Up {
					t.Fatalf("%+v, called at %d: %+v", d, now, x)
				}
				stateIs(t, d, x, x.Until, On)
				if State(d, x, x.Until-1) == On {
					t.Fatalf("%+v, called at %d: %+v is On ahead of its Until", d, now, x)
				}
			}
		}
	}
}

// P7.4: a device that never was away costs On from the beginning.
func TestEnergyNeverAway(t *testing.T) {
	for _, on := range []int{0, 1, 50, api.MaxPower} {
		d := mayBe(t, api.Device{On: on, Off: on, Down: 2, Up: 3, Even: 10})
		for _, now := range []int{0, 1, 2, 3, 10, 11, 16384, 1 << 32, api.Never} {
			energyIs(t, d, Dev{}, now, on*now)
		}
	}
	d := mayBe(t, api.Device{On: 50, Off: 3, Down: 2, Up: 3, DownE: 70, UpE: 110, Even: 10})
	energyIs(t, d, Dev{}, 0, 0)
	energyIs(t, d, Dev{}, 4, 200)
}

// P7.4: the moments around each change, written out.
func TestEnergyByHand(t *testing.T) {
	for _, c := range []struct {
		down, up int
		x        Dev
		want     map[int]int
	}{
		{2, 3, Dev{100, 110}, map[int]int{
			0: 0, 1: 0, 99: 0, 100: 70, 101: 70, 102: 70, 103: 73, 104: 76, 106: 82, 107: 85 + 110,
			108: 195, 109: 195, 110: 195, 111: 245, 112: 295, 210: 195 + 5000,
		}},
		{2, 3, Dev{0, 10}, map[int]int{0: 70, 1: 70, 2: 70, 3: 73, 6: 82, 7: 195, 10: 195, 11: 245}},
		{2, 3, Dev{100, 105}, map[int]int{99: 0, 100: 70, 101: 70, 102: 180, 104: 180, 105: 180, 106: 230}},
		{2, 3, Dev{100, 106}, map[int]int{99: 0, 100: 70, 102: 70, 103: 183, 105: 183, 106: 183, 107: 233}},
		{0, 0, Dev{100, 110}, map[int]int{99: 0, 100: 70, 101: 73, 109: 97, 110: 210, 111: 260}},
		{0, 0, Dev{100, 100}, map[int]int{99: 0, 100: 180, 101: 230}},
		{0, 0, Dev{0, 1}, map[int]int{0: 70, 1: 183, 2: 233}},
		{1, 0, Dev{100, 110}, map[int]int{99: 0, 100: 70, 101: 70, 102: 73, 109: 94, 110: 207, 111: 257}},
		{0, 1, Dev{100, 110}, map[int]int{99: 0, 100: 70, 101: 73, 108: 94, 109: 207, 110: 207, 111: 257}},
		{0, 1, Dev{100, 101}, map[int]int{99: 0, 100: 180, 101: 180, 102: 230}},
		{256, 256, Dev{1000, 2000}, map[int]int{
			999: 0, 1000: 70, 1256: 70, 1257: 73, 1743: 70 + 3*487, 1744: 70 + 3*488 + 110, 2000: 1644, 2001: 1694,
		}},
	} {
		d := mayBe(t, api.Device{On: 50, Off: 3, Down: c.down, Up: c.up, DownE: 70, UpE: 110, Even: 1000})
		for now, want := range c.want {
			energyIs(t, d, c.x, now, want)
		}
	}
}

// P7.4: one quantum behind the other, from the beginning or from ahead of
// From to well behind Until, against a plain sum of what each one costs.
func TestEnergyQuantumByQuantum(t *testing.T) {
	for _, d := range devices(t) {
		for _, from := range []int{0, 1, 40, 1<<32 - 3} {
			for _, off := range []int{0, 1, 2, 300} {
				x := Dev{from, from + d.Down + off + d.Up}
				if x == (Dev{0, 0}) {
					continue
				}
				sum := 0
				for now := max(0, from-40); now < x.Until+600; now++ {
					if now == x.From {
						sum += d.DownE
					}
					if now == x.Until-d.Up {
						sum += d.UpE
					}
					energyIs(t, d, x, now, sum)
					switch state := walked(d, x, now); {
					case state == Off:
						sum += d.Off
					case state == On && now >= x.Until:
						sum += d.On
					}
				}
			}
		}
	}
}

// P7.4: a device that has not been called back: what it costs to be away, up
// to Never.
func TestEnergyUntilNever(t *testing.T) {
	d := mayBe(t, example)
	for _, from := range []int{0, 1, 100, 1 << 33} {
		x := Dev{from, api.Never}
		if from > 0 {
			energyIs(t, d, x, from-1, 0)
		}
		energyIs(t, d, x, from, 70)
		energyIs(t, d, x, from+2, 70)
		energyIs(t, d, x, from+3, 73)
		energyIs(t, d, x, from+1002, 3070)
		end := 70 + 3*(api.Never-3-from-2)
		energyIs(t, d, x, api.Never-4, end-3)
		energyIs(t, d, x, api.Never-3, end+110)
		energyIs(t, d, x, api.Never-1, end+110)
		energyIs(t, d, x, api.Never, end+110)
	}
}

// plainEnergy is P7.4's second sentence, in numbers without bounds.
func plainEnergy(d api.Device, x Dev, now int) *big.Int {
	sum := new(big.Int)
	add := func(count, each int) {
		if count > 0 {
			sum.Add(sum, new(big.Int).Mul(big.NewInt(int64(count)), big.NewInt(int64(each))))
		}
	}
	if now >= x.From {
		add(1, d.DownE)
	}
	if now >= x.Until-d.Up {
		add(1, d.UpE)
	}
	offs := x.Until - d.Up - x.From - d.Down
	if now < x.Until-d.Up {
		offs = now - x.From - d.Down
	}
	add(offs, d.Off)
	add(now-x.Until, d.On)
	return sum
}

// extremes are devices with each number at its least or at its greatest, as
// far as they may be.
func extremes() []api.Device {
	var list []api.Device
	for i := range 1 << 7 {
		pick := func(bit, least, greatest int) int {
			if i>>bit&1 == 0 {
				return least
			}
			return greatest
		}
		d := api.Device{
			On: pick(0, 0, api.MaxPower), Off: pick(1, 0, api.MaxPower),
			Down: pick(2, 0, api.MaxLatency), Up: pick(3, 0, api.MaxLatency),
			DownE: pick(4, 0, api.MaxPower), UpE: pick(5, 0, api.MaxPower),
		}
		d.Even = pick(6, max(1, d.Down+d.Up), api.MaxHorizon)
		if allowed(d) {
			list = append(list, d)
		}
	}
	return list
}

// P7.1 to P7.4: numbers at their least and at their greatest: nothing wraps
// round.
func TestExtremes(t *testing.T) {
	list := extremes()
	if len(list) < 60 {
		t.Fatalf("only %d devices may be", len(list))
	}
	for _, d := range list {
		for _, x := range stays(d) {
			for _, now := range moments(d, x) {
				state := walked(d, x, now)
				stateIs(t, d, x, now, state)
				if state == On && now+d.Even <= api.Never {
					goes(t, d, x, now, now+d.Even)
				} else {
					staysAsItIs(t, d, x, now, min(now+d.Even, api.Never))
				}
				want := plainEnergy(d, x, now)
				if got := Energy(d, x, now); !want.IsInt64() || int64(got) != want.Int64() {
					t.Fatalf("Energy(%+v, %+v, %d) is %d, not %v", d, x, now, got, want)
				}
			}
		}
	}
}

// P7.4: the most, and the least, that a device can have cost.
func TestEnergyAtTheEnds(t *testing.T) {
	most := mayBe(t, api.Device{
		On: 1 << 16, Off: 1 << 16, Down: 256, Up: 256, DownE: 1 << 16, UpE: 1 << 16, Even: 1 << 14,
	})
	energyIs(t, most, Dev{}, api.Never, 1<<56)
	energyIs(t, most, Dev{0, api.Never}, api.Never, 1<<56-510<<16)
	energyIs(t, most, Dev{0, 512}, api.Never, 1<<56-510<<16)
	least := mayBe(t, api.Device{Even: 1})
	for _, x := range []Dev{{}, {0, 1}, {0, api.Never}, {api.Never, api.Never}} {
		energyIs(t, least, x, 0, 0)
		energyIs(t, least, x, api.Never, 0)
	}
}

// P7.2, P7.4: a stay of Even or longer never costs more than to be On for as
// long: this is what Even is for.
func TestEvenPays(t *testing.T) {
	for _, d := range []api.Device{
		example,
		{On: 10, Off: 0, Down: 1, Up: 1, DownE: 15, UpE: 25, Even: 4},
		{On: api.MaxPower, Off: api.MaxPower, Even: 1},
		{On: api.MaxPower, Off: 0, Down: 256, Up: 256, DownE: api.MaxPower, UpE: api.MaxPower, Even: 512},
	} {
		mayBe(t, d)
		for longer := range 50 {
			x, ok := Away(d, Dev{}, 70, 70+d.Even+longer)
			if !ok || Energy(d, x, x.Until) > d.On*(x.Until-x.From) {
				t.Fatalf("%+v: away as %+v, %v", d, x, ok)
			}
		}
	}
}

// randomDevice is one that may be.
func randomDevice(t *testing.T, r *rand.Rand) api.Device {
	t.Helper()
	small := func(n int) int { return r.IntN(1 + r.IntN(n+1)) }
	d := api.Device{Down: small(api.MaxLatency), Up: small(api.MaxLatency), On: small(api.MaxPower)}
	d.Off = small(d.On)
	d.Even = max(1, d.Down+d.Up) + small(40)
	spare := d.On*d.Even - d.Off*(d.Even-d.Down-d.Up)
	d.DownE = small(min(spare, api.MaxPower))
	d.UpE = small(min(spare-d.DownE, api.MaxPower))
	return mayBe(t, d)
}

// P7.1 to P7.4: a device that goes away and is called at odd moments, against
// what each quantum was.
func TestManySteps(t *testing.T) {
	for seed := range 200 {
		r := rand.New(rand.NewPCG(uint64(seed), 7))
		d, x := randomDevice(t, r), Dev{}
		name := fmt.Sprintf("seed %d: %+v", seed, d)
		for now := 0; now < 3000; now++ {
			want := On
			if x != (Dev{}) {
				want = walked(d, x, now)
				if got := Energy(d, x, now); plainEnergy(d, x, now).Cmp(big.NewInt(int64(got))) != 0 {
					t.Fatalf("%s: %+v at %d: Energy is %d", name, x, now, got)
				}
			}
			stateIs(t, d, x, now, want)
			switch r.IntN(40) {
			case 0:
				until := max(0, now+d.Even+r.IntN(30)-10)
				if r.IntN(2) == 0 {
					until = api.Never
				}
				if want == On && until-now >= d.Even {
					goes(t, d, x, now, until)
				} else {
					staysAsItIs(t, d, x, now, until)
				}
				x, _ = Away(d, x, now, until)
			case 1:
				was := x
				x = Call(d, x, now)
				if was.Until != api.Never && x != was || x.From != was.From || x.Until == api.Never {
					t.Fatalf("%s: %+v, called at %d: %+v", name, was, now, x)
				}
			}
		}
	}
}
