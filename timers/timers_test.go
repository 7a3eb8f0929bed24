package timers

import (
	"math"
	"slices"
	"testing"

	"dormouse/api"
)

// timer is what Set was told of an id.
type timer struct{ id, at, every int }

// due is an id, and a moment at which it was due.
type due struct{ id, at int }

// plain is what timers have to be, as a list in no order.
type plain struct{ list []timer }

func (p *plain) set(id, at, every int) {
	p.cancel(id)
	p.list = append(p.list, timer{id, capped(at), every})
}

func (p *plain) cancel(id int) bool {
	before := len(p.list)
	p.list = slices.DeleteFunc(p.list, func(r timer) bool { return r.id == id })
	return len(p.list) < before
}

func (p *plain) due(now int) (id, at int, ok bool) {
	first := -1
	for i, r := range p.list {
		if first < 0 || r.at < p.list[first].at || r.at == p.list[first].at && r.id < p.list[first].id {
			first = i
		}
	}
	if first < 0 || p.list[first].at > now {
		return 0, 0, false
	}
	r := p.list[first]
	p.cancel(r.id)
	if r.every > 0 {
		// An every above 2*Never leads beyond Never from wherever it starts.
		p.set(r.id, r.at+min(r.every, 2*api.Never+1), r.every)
	}
	return r.id, r.at, true
}

// capped is at, or Never, if it is above that.
func capped(at int) int {
	if at > api.Never {
		return api.Never
	}
	return at
}

// built is timers that were set, one by one.
func built(list ...timer) *Timers {
	x := New()
	for _, r := range list {
		x.Set(r.id, r.at, r.every)
	}
	return x
}

// lenIs holds Len against what is wanted, and so twice: to look changes
// nothing.
func lenIs(t *testing.T, x *Timers, want int) {
	t.Helper()
	for range 2 {
		if got := x.Len(); got != want {
			t.Fatalf("Len is %d, not %d", got, want)
		}
	}
}

// cancelIs holds Cancel of one id against what is wanted.
func cancelIs(t *testing.T, x *Timers, id int, want bool) {
	t.Helper()
	if got := x.Cancel(id); got != want {
		t.Fatalf("Cancel(%d) is %v, not %v", id, got, want)
	}
}

// dueIs holds one Due against what is wanted.
func dueIs(t *testing.T, x *Timers, now, wantID, wantAt int, wantOK bool) {
	t.Helper()
	if id, at, ok := x.Due(now); id != wantID || at != wantAt || ok != wantOK {
		t.Fatalf("Due(%d) is %d, %d, %v, not %d, %d, %v", now, id, at, ok, wantID, wantAt, wantOK)
	}
}

// duesAre holds Due, call by call, against what is wanted.
func duesAre(t *testing.T, x *Timers, now int, want ...due) {
	t.Helper()
	for _, d := range want {
		dueIs(t, x, now, d.id, d.at, true)
	}
}

// noneAt holds that nothing is due, and asks twice: such a Due changes nothing.
func noneAt(t *testing.T, x *Timers, now int) {
	t.Helper()
	before := x.Len()
	for range 2 {
		dueIs(t, x, now, 0, 0, false)
		lenIs(t, x, before)
	}
}

// drainsTo takes all that is due by now, which has to be this in that order,
// and nothing more.
func drainsTo(t *testing.T, x *Timers, now int, want ...due) {
	t.Helper()
	duesAre(t, x, now, want...)
	noneAt(t, x, now)
}

// P3.1, P3.2: the chapter's first example.
func TestExampleOne(t *testing.T) {
	x := built(timer{1, 5, 5})
	drainsTo(t, x, 12, due{1, 5}, due{1, 10})
	lenIs(t, x, 1)
}

// P3.1, P3.2: the chapter's second example.
func TestExampleTwo(t *testing.T) {
	x := built(timer{1, 5, 0})
	noneAt(t, x, 4)
	drainsTo(t, x, 5, due{1, 5})
	lenIs(t, x, 0)
}

// P3.1, P3.2: timers without ids, made by New, by nobody, or emptied.
func TestEmpty(t *testing.T) {
	run, cancelled := built(timer{4, 9, 0}), built(timer{4, 9, 9}, timer{2, 9, 0})
	run.Due(9)
	cancelled.Cancel(4)
	cancelled.Cancel(2)
	for _, x := range []*Timers{New(), {}, run, cancelled} {
		if x == nil {
			t.Fatal("New is nil")
		}
		lenIs(t, x, 0)
		for _, n := range []int{0, 2, 4, 9, -1, api.Never, math.MinInt, math.MaxInt} {
			noneAt(t, x, n)
			cancelIs(t, x, n, false)
		}
		x.Set(0, 0, 0)
		lenIs(t, x, 1)
		noneAt(t, x, -1)
		drainsTo(t, x, 0, due{0, 0})
		lenIs(t, x, 0)
	}
}

// P3.1: an id that is set again has its new moment and its new every alone.
func TestSetAgain(t *testing.T) {
	for _, row := range []struct {
		name          string
		first, second timer
		want          []due
	}{
		{"once, earlier", timer{1, 20, 0}, timer{1, 10, 0}, []due{{1, 10}, {2, 15}}},
		{"once, later", timer{1, 10, 0}, timer{1, 20, 0}, []due{{2, 15}, {1, 20}}},
		{"once, the same", timer{1, 10, 0}, timer{1, 10, 0}, []due{{1, 10}, {2, 15}}},
		{"again and again, then once", timer{1, 10, 7}, timer{1, 12, 0}, []due{{1, 12}, {2, 15}}},
		{"once, then again and again", timer{1, 10, 0}, timer{1, 12, 7}, []due{{1, 12}, {2, 15}, {1, 19}, {1, 26}}},
		{"another every, later", timer{1, 3, 4}, timer{1, 13, 9}, []due{{1, 13}, {2, 15}, {1, 22}}},
		{"another every, earlier", timer{1, 13, 9}, timer{1, 3, 4}, []due{{1, 3}, {1, 7}, {1, 11}, {1, 15}, {2, 15}, {1, 19}, {1, 23}, {1, 27}}},
	} {
		t.Run(row.name, func(t *testing.T) {
			x := built(row.first, timer{2, 15, 0}, row.second)
			lenIs(t, x, 2)
			drainsTo(t, x, 30, row.want...)
		})
	}
}

// P3.1, P3.2: an id that was due already, and is set again.
func TestSetBetween(t *testing.T) {
	x := built(timer{1, 5, 5})
	duesAre(t, x, 12, due{1, 5})
	x.Set(1, 7, 2)
	drainsTo(t, x, 12, due{1, 7}, due{1, 9}, due{1, 11})
	x.Set(1, 3, 0)
	drainsTo(t, x, 12, due{1, 3})
	lenIs(t, x, 0)
	x.Set(1, 4, 6)
	drainsTo(t, x, 12, due{1, 4}, due{1, 10})
	lenIs(t, x, 1)
}

// P3.2: of several ids at one moment the least is first, in whatever order
// they were set.
func TestOneMoment(t *testing.T) {
	ids := []int{-7, -1, 0, 3, 12}
	for turn := range ids {
		for _, back := range []bool{false, true} {
			x := New()
			for i := range ids {
				place := (turn + i) % len(ids)
				if back {
					place = len(ids) - 1 - place
				}
				x.Set(ids[place], 8, 0)
			}
			lenIs(t, x, 5)
			noneAt(t, x, 7)
			drainsTo(t, x, 8, due{-7, 8}, due{-1, 8}, due{0, 8}, due{3, 8}, due{12, 8})
		}
	}
}

// P3.2: the moment comes ahead of the id, and of equal moments it counts
// nothing which of them came by every.
func TestMomentAheadOfID(t *testing.T) {
	x := built(timer{1, 9, 3}, timer{2, 8, 2}, timer{3, 12, 0}, timer{0, 10, 0})
	drainsTo(t, x, 12,
		due{2, 8}, due{1, 9}, due{0, 10}, due{2, 10}, due{1, 12}, due{2, 12}, due{3, 12})
	lenIs(t, x, 2)
	drainsTo(t, x, 14, due{2, 14})
}

// P3.2: just ahead of a moment, at it, and behind it.
func TestAroundMoment(t *testing.T) {
	for _, at := range []int{-api.Never, -1, 0, 1, 1000, api.Never - 1, api.Never} {
		for _, every := range []int{0, 5} {
			for _, now := range []int{math.MinInt, at - 2, at - 1} {
				x := built(timer{3, at, every})
				noneAt(t, x, now)
				duesAre(t, x, at, due{3, at})
			}
			for _, now := range []int{at, at + 1, at + 4, math.MaxInt} {
				x := built(timer{3, at, every})
				duesAre(t, x, now, due{3, at})
			}
		}
	}
}

// P3.2: long behind, each moment comes once, in order, though they are asked
// for late; nothing starts anew from now.
func TestLongBehind(t *testing.T) {
	x := built(timer{5, 3, 4}, timer{2, -6, 10})
	var want []due
	for at := -6; at <= 1000; at++ {
		if (at+6)%10 == 0 {
			want = append(want, due{2, at})
		}
		if at >= 3 && (at-3)%4 == 0 {
			want = append(want, due{5, at})
		}
	}
	drainsTo(t, x, 1000, want...)
	lenIs(t, x, 2)
	drainsTo(t, x, 1004, due{5, 1003}, due{2, 1004})
}

// P3.2: now may go back; what was due then is not due again.
func TestNowGoesBack(t *testing.T) {
	x := built(timer{1, 5, 5})
	drainsTo(t, x, 12, due{1, 5}, due{1, 10})
	noneAt(t, x, 10)
	noneAt(t, x, 14)
	drainsTo(t, x, 15, due{1, 15})
}

// P3.2: an every of 0, or below it: once.
func TestOnce(t *testing.T) {
	for _, every := range []int{0, -1, -5, -api.Never, math.MinInt + 1, math.MinInt} {
		x := built(timer{1, 5, every}, timer{2, 6, every})
		lenIs(t, x, 2)
		dueIs(t, x, 9, 1, 5, true)
		lenIs(t, x, 1)
		cancelIs(t, x, 1, false)
		dueIs(t, x, 9, 2, 6, true)
		lenIs(t, x, 0)
		noneAt(t, x, math.MaxInt)
		noneAt(t, x, math.MinInt)
	}
}

// P3.2: an every of 1, the least by which it is due again.
func TestEveryQuantum(t *testing.T) {
	x := built(timer{1, -2, 1})
	drainsTo(t, x, 1, due{1, -2}, due{1, -1}, due{1, 0}, due{1, 1})
	lenIs(t, x, 1)
}

// P3.1: a moment above Never counts as Never, and of several the least id is
// first, whichever was set to the earlier one.
func TestAboveNever(t *testing.T) {
	for _, at := range []int{api.Never, api.Never + 1, 2 * api.Never, math.MaxInt - 1, math.MaxInt} {
		x := built(timer{4, at, 0})
		lenIs(t, x, 1)
		noneAt(t, x, api.Never-1)
		drainsTo(t, x, api.Never, due{4, api.Never})
		lenIs(t, x, 0)
	}
	x := built(timer{3, api.Never, 0}, timer{2, api.Never + 1, 0}, timer{1, math.MaxInt, 0}, timer{4, api.Never - 1, 0})
	drainsTo(t, x, math.MaxInt, due{4, api.Never - 1}, due{1, api.Never}, due{2, api.Never}, due{3, api.Never})
}

// P3.2: an every by which the next moment would be above Never: it is due at
// Never, and then again and again there.
func TestNextAboveNever(t *testing.T) {
	for _, row := range []struct{ at, every, next int }{
		{0, api.Never - 1, api.Never - 1},
		{0, api.Never, api.Never},
		{0, api.Never + 1, api.Never},
		{5, api.Never - 6, api.Never - 1},
		{5, api.Never - 5, api.Never},
		{5, api.Never - 4, api.Never},
		{5, math.MaxInt - 5, api.Never},
		{5, math.MaxInt - 4, api.Never},
		{5, math.MaxInt, api.Never},
		{0, math.MaxInt, api.Never},
		{-1, math.MaxInt, api.Never},
		{-1, api.Never, api.Never - 1},
		{-1, api.Never + 1, api.Never},
		{-1, api.Never + 2, api.Never},
		{-api.Never, api.Never, 0},
		{-api.Never, 2*api.Never - 1, api.Never - 1},
		{-api.Never, 2 * api.Never, api.Never},
		{-api.Never, 2*api.Never + 1, api.Never},
		{-api.Never, math.MaxInt, api.Never},
		{api.Never - 1, 1, api.Never},
		{api.Never - 1, 2, api.Never},
		{api.Never - 1, math.MaxInt, api.Never},
		{api.Never, 1, api.Never},
		{api.Never, math.MaxInt - api.Never, api.Never},
		{api.Never, math.MaxInt, api.Never},
		{math.MaxInt, 1, api.Never},
		{math.MaxInt, math.MaxInt, api.Never},
	} {
		x := built(timer{6, row.at, row.every})
		dueIs(t, x, api.Never, 6, capped(row.at), true)
		lenIs(t, x, 1)
		noneAt(t, x, row.next-1)
		dueIs(t, x, row.next, 6, row.next, true)
		lenIs(t, x, 1)
	}
	x := built(timer{6, api.Never - 3, 2})
	duesAre(t, x, math.MaxInt, due{6, api.Never - 3}, due{6, api.Never - 1})
	for range 4 {
		noneAt(t, x, api.Never-1)
		dueIs(t, x, math.MaxInt, 6, api.Never, true)
	}
	cancelIs(t, x, 6, true)
	noneAt(t, x, math.MaxInt)
}

// P3.1: Cancel of an id that is there, of one that was, and of one that never
// was; the others stay.
func TestCancel(t *testing.T) {
	all := []timer{{-3, 4, 0}, {0, 2, 0}, {5, 1, 6}, {8, 2, 3}, {9, 7, 0}}
	for _, gone := range []int{-3, 0, 5, 8, 9, -4, 1, 10, math.MinInt, math.MaxInt} {
		x, p := New(), &plain{}
		for _, r := range all {
			sets(x, p, r.id, r.at, r.every)
		}
		cancels(t, x, p, gone)
		cancels(t, x, p, gone)
		for range 12 {
			takes(t, x, p, 9)
		}
	}
}

// P3.1: a cancelled id may be set again, and knows nothing of what it was.
func TestCancelledComesAgain(t *testing.T) {
	x := built(timer{1, 5, 5}, timer{2, 6, 0})
	cancelIs(t, x, 1, true)
	lenIs(t, x, 1)
	cancelIs(t, x, 1, false)
	x.Set(1, 8, 0)
	lenIs(t, x, 2)
	drainsTo(t, x, 30, due{2, 6}, due{1, 8})
	lenIs(t, x, 0)
	x.Set(2, 3, 9)
	drainsTo(t, x, 20, due{2, 3}, due{2, 12})
	cancelIs(t, x, 2, true)
	noneAt(t, x, math.MaxInt)
}

// P3.1, P3.2: ids and moments below 0, moments from -Never on, and ids at the
// ends of int.
func TestEnds(t *testing.T) {
	ids := []int{math.MinInt, math.MinInt + 1, -1, 0, 1, math.MaxInt - 1, math.MaxInt}
	moments := []int{-api.Never, -api.Never + 1, -1, 0, 1, api.Never, math.MaxInt}
	for turn := range moments {
		for _, every := range []int{0, 1, api.Never, math.MaxInt} {
			x, p := New(), &plain{}
			for i, id := range ids {
				sets(x, p, id, moments[(i+turn)%len(moments)], every)
			}
			noneAt(t, x, -api.Never-1)
			noneAt(t, x, math.MinInt)
			for _, now := range []int{-api.Never, -api.Never + 1, -1, 0, 1, api.Never - 1, api.Never, math.MaxInt} {
				for range 2 * len(ids) {
					takes(t, x, p, now)
				}
			}
			for _, id := range ids {
				cancels(t, x, p, id)
			}
			lenIs(t, x, 0)
		}
	}
	x := New()
	for _, id := range []int{math.MaxInt, 0, math.MinInt} {
		x.Set(id, -api.Never, 0)
	}
	drainsTo(t, x, -api.Never, due{math.MinInt, -api.Never}, due{0, -api.Never}, due{math.MaxInt, -api.Never})
}

// sets sets one id in both.
func sets(x *Timers, p *plain, id, at, every int) {
	x.Set(id, at, every)
	p.set(id, at, every)
}

// cancels takes one id out of both, and holds the answers against each other.
func cancels(t *testing.T, x *Timers, p *plain, id int) {
	t.Helper()
	cancelIs(t, x, id, p.cancel(id))
	lenIs(t, x, len(p.list))
}

// takes asks both what is due, and holds the answers against each other.
func takes(t *testing.T, x *Timers, p *plain, now int) {
	t.Helper()
	id, at, ok := p.due(now)
	dueIs(t, x, now, id, at, ok)
	lenIs(t, x, len(p.list))
}

// P3.1, P3.2: every way to go four steps with two ids, three moments and two
// everies.
func TestShortWays(t *testing.T) {
	var steps []func(*testing.T, *Timers, *plain)
	for id := range 2 {
		for at := range 3 {
			for every := range 2 {
				steps = append(steps, func(t *testing.T, x *Timers, p *plain) { sets(x, p, id, at, every) })
			}
		}
		steps = append(steps, func(t *testing.T, x *Timers, p *plain) { cancels(t, x, p, id) })
	}
	for now := range 3 {
		steps = append(steps, func(t *testing.T, x *Timers, p *plain) { takes(t, x, p, now) })
	}
	kinds := len(steps)
	for way := range kinds * kinds * kinds * kinds {
		x, p := New(), &plain{}
		for rest, n := way, 0; n < 4; rest, n = rest/kinds, n+1 {
			steps[rest%kinds](t, x, p)
			lenIs(t, x, len(p.list))
		}
		for range 8 {
			takes(t, x, p, 3)
		}
	}
}

// numbers answers numbers that look as if by chance, and are the same each
// time.
func numbers(seed uint64) func(below int) int {
	return func(below int) int {
		seed = seed*6364136223846793005 + 1442695040888963407
		return int(seed>>33) % below
	}
}

// P3.1, P3.2: many steps, with few and with many ids, moments close together
// and far apart, around 0 and around Never.
func TestManySteps(t *testing.T) {
	for _, row := range []struct{ ids, spread, from, steps int }{
		{4, 10, 0, 4000}, {4, 10, api.Never - 40, 4000}, {20, 6, -50, 6000},
		{20, 100000, 0, 6000}, {200, 30, -api.Never, 8000}, {200, 1000, api.Never - 3000, 8000},
	} {
		next := numbers(uint64(row.ids*row.spread + 1))
		x, p, now := New(), &plain{}, row.from
		for range row.steps {
			id := next(row.ids) - row.ids/2
			switch kind := next(12); {
			case kind < 3:
				at := max(now+next(2*row.spread)-row.spread/2, -api.Never)
				sets(x, p, id, at, next(row.spread)-row.spread/3)
			case kind < 5:
				cancels(t, x, p, id)
			case kind < 6:
				now += next(row.spread/2 + 1)
			default:
				takes(t, x, p, now)
			}
			lenIs(t, x, len(p.list))
		}
		for range 3 * row.ids {
			takes(t, x, p, now)
		}
		for id := -row.ids; id <= row.ids; id++ {
			cancels(t, x, p, id)
		}
	}
}

// P3.1, R5: two of them know nothing of each other.
func TestApart(t *testing.T) {
	a, b := built(timer{1, 5, 0}), New()
	b.Set(1, 9, 4)
	b.Set(2, 3, 0)
	cancelIs(t, a, 2, false)
	drainsTo(t, a, 20, due{1, 5})
	lenIs(t, b, 2)
	drainsTo(t, b, 14, due{2, 3}, due{1, 9}, due{1, 13})
	lenIs(t, a, 0)
}

// P3.1, P3.2: of an id that is not there any more nothing is kept.
func TestNothingKept(t *testing.T) {
	x := New()
	for id := range 50 {
		x.Set(id, id, id%3-1)
	}
	for id := range 10 {
		x.Cancel(4 * id)
	}
	for range 60 {
		x.Due(60)
	}
	if len(x.everies) != x.Len() {
		t.Errorf("the everies of %d are known, of %d ids", len(x.everies), x.Len())
	}
}

// P3.3
func TestNil(t *testing.T) {
	var x *Timers
	for range 2 {
		for _, n := range []int{0, 1, -1, api.Never, -api.Never, math.MinInt, math.MaxInt} {
			noneAt(t, x, n)
			cancelIs(t, x, n, false)
			lenIs(t, x, 0)
			x.Set(n, 5, 5)
			x.Set(1, max(n, -api.Never), n)
			lenIs(t, x, 0)
			noneAt(t, x, n)
			noneAt(t, x, math.MaxInt)
			cancelIs(t, x, n, false)
			cancelIs(t, x, 1, false)
		}
	}
	if x != nil {
		t.Error("nil timers are not nil any more")
	}
}
