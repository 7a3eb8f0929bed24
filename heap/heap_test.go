package heap

import (
	"cmp"
	"math"
	"slices"
	"testing"
)

// plain is what a heap has to be, as a list in order.
type plain struct{ list []entry }

func (p *plain) at(id int) int {
	return slices.IndexFunc(p.list, func(e entry) bool { return e.id == id })
}

func (p *plain) push(id, key int) {
	p.remove(id)
	p.list = append(p.list, entry{id, key})
	slices.SortFunc(p.list, func(a, b entry) int {
		return cmp.Or(cmp.Compare(a.key, b.key), cmp.Compare(a.id, b.id))
	})
}

func (p *plain) remove(id int) bool {
	i := p.at(id)
	if i < 0 {
		return false
	}
	p.list = slices.Delete(p.list, i, i+1)
	return true
}

func (p *plain) top() (id, key int, ok bool) {
	if len(p.list) == 0 {
		return 0, 0, false
	}
	return p.list[0].id, p.list[0].key, true
}

func (p *plain) key(id int) (int, bool) {
	i := p.at(id)
	if i < 0 {
		return 0, false
	}
	return p.list[i].key, true
}

// built is a heap to which the entries were pushed, one by one.
func built(entries ...entry) *Heap {
	h := New()
	for _, e := range entries {
		h.Push(e.id, e.key)
	}
	return h
}

// looks holds Top and Len against what is wanted, and so twice: to look
// changes nothing.
func looks(t *testing.T, h *Heap, p *plain) {
	t.Helper()
	wantID, wantKey, wantOK := p.top()
	for range 2 {
		if got := h.Len(); got != len(p.list) {
			t.Fatalf("Len is %d, not %d", got, len(p.list))
		}
		if id, key, ok := h.Top(); id != wantID || key != wantKey || ok != wantOK {
			t.Fatalf("Top is %d, %d, %v, not %d, %d, %v", id, key, ok, wantID, wantKey, wantOK)
		}
	}
}

// keyIs holds Key of one id against what is wanted.
func keyIs(t *testing.T, h *Heap, id, want int, wantOK bool) {
	t.Helper()
	if key, ok := h.Key(id); key != want || ok != wantOK {
		t.Fatalf("Key(%d) is %d, %v, not %d, %v", id, key, ok, want, wantOK)
	}
}

// pops takes one out of both, and holds the answers against each other.
func pops(t *testing.T, h *Heap, p *plain) {
	t.Helper()
	wantID, wantKey, wantOK := p.top()
	p.remove(wantID)
	if id, key, ok := h.Pop(); id != wantID || key != wantKey || ok != wantOK {
		t.Fatalf("Pop is %d, %d, %v, not %d, %d, %v", id, key, ok, wantID, wantKey, wantOK)
	}
}

// removes takes one id out of both, and holds the answers against each other.
func removes(t *testing.T, h *Heap, p *plain, id int) {
	t.Helper()
	if got, want := h.Remove(id), p.remove(id); got != want {
		t.Fatalf("Remove(%d) is %v, not %v", id, got, want)
	}
}

// pushes gives one id a key in both.
func pushes(h *Heap, p *plain, id, key int) {
	h.Push(id, key)
	p.push(id, key)
}

// drains pops until both are empty, and once more.
func drains(t *testing.T, h *Heap, p *plain) {
	t.Helper()
	for range len(p.list) + 1 {
		looks(t, h, p)
		pops(t, h, p)
	}
	looks(t, h, p)
}

// drainsTo pops all there is, which has to be the entries in that order.
func drainsTo(t *testing.T, h *Heap, want ...entry) {
	t.Helper()
	drains(t, h, &plain{slices.Clone(want)})
}

// P2.1, P2.2: the chapter's first example.
func TestExampleOne(t *testing.T) {
	h := built(entry{7, 5}, entry{3, 5}, entry{7, 4})
	if id, key, ok := h.Top(); id != 7 || key != 4 || !ok {
		t.Errorf("Top is %d, %d, %v", id, key, ok)
	}
	if h.Len() != 2 {
		t.Errorf("Len is %d", h.Len())
	}
}

// P2.2: the chapter's second example.
func TestExampleTwo(t *testing.T) {
	h := built(entry{7, 5}, entry{3, 5})
	if id, key, ok := h.Top(); id != 3 || key != 5 || !ok {
		t.Errorf("Top is %d, %d, %v", id, key, ok)
	}
}

// P2.1, P2.2: a heap without ids, made by New, by nobody, or emptied.
func TestEmpty(t *testing.T) {
	popped, removed := built(entry{4, 9}), built(entry{4, 9}, entry{2, 9})
	popped.Pop()
	removed.Remove(2)
	removed.Remove(4)
	for _, h := range []*Heap{New(), {}, popped, removed} {
		if h == nil {
			t.Fatal("New is nil")
		}
		for _, id := range []int{0, 2, 4, -1, math.MinInt, math.MaxInt} {
			keyIs(t, h, id, 0, false)
			removes(t, h, &plain{}, id)
		}
		drainsTo(t, h)
		h.Push(0, 0)
		keyIs(t, h, 0, 0, true)
		drainsTo(t, h, entry{0, 0})
	}
}

// P2.1: an id that is pushed again has its new key alone.
func TestPushAgain(t *testing.T) {
	others := []entry{{1, 10}, {2, 20}, {3, 30}, {4, 40}, {5, 50}, {6, 60}, {7, 70}}
	for _, e := range others {
		for _, key := range []int{-5, 5, 10, 15, 20, 35, 40, 45, 65, 70, 75} {
			h, p := built(others...), &plain{slices.Clone(others)}
			pushes(h, p, e.id, key)
			keyIs(t, h, e.id, key, true)
			looks(t, h, p)
			drains(t, h, p)
		}
		h := built(others...)
		h.Push(e.id, e.key)
		keyIs(t, h, e.id, e.key, true)
		drainsTo(t, h, others...)
	}
}

// P2.2: of several with the least key the least id is first, in whatever order
// they were pushed.
func TestEqualKeys(t *testing.T) {
	ids := []int{-2, -1, 0, 1, 2}
	orders(ids, func(order []int) {
		h, p := New(), &plain{}
		for _, id := range order {
			pushes(h, p, id, 8)
			looks(t, h, p)
		}
		drainsTo(t, h, entry{-2, 8}, entry{-1, 8}, entry{0, 8}, entry{1, 8}, entry{2, 8})
	})
	drainsTo(t, built(entry{1, 9}, entry{2, 8}, entry{9, 8}, entry{0, 9}),
		entry{2, 8}, entry{9, 8}, entry{0, 9}, entry{1, 9})
}

// orders calls do with each order of the list.
func orders(list []int, do func([]int)) {
	var fill func(from int)
	fill = func(from int) {
		if from == len(list) {
			do(slices.Clone(list))
			return
		}
		for i := from; i < len(list); i++ {
			list[from], list[i] = list[i], list[from]
			fill(from + 1)
			list[from], list[i] = list[i], list[from]
		}
	}
	fill(0)
}

// P2.1, P2.2: whichever one is removed from a heap that was built in whichever
// order, the others stay, in their order.
func TestRemove(t *testing.T) {
	orders([]int{1, 2, 3, 4, 5, 6}, func(order []int) {
		for _, gone := range []int{0, 1, 2, 3, 4, 5, 6, 7} {
			h, p := New(), &plain{}
			for _, id := range order {
				pushes(h, p, id, 100-10*id)
			}
			removes(t, h, p, gone)
			keyIs(t, h, gone, 0, false)
			removes(t, h, p, gone)
			drains(t, h, p)
		}
	})
}

// P2.1, P2.2: what fills a removed one's gap may have to rise: here 9 and 10
// lie below 8, and the last one, 4, comes into their place from below 3.
func TestRemoveRises(t *testing.T) {
	list := []entry{{1, 1}, {8, 8}, {2, 2}, {9, 9}, {10, 10}, {3, 3}, {5, 5}, {11, 11}, {12, 12}, {13, 13}, {14, 14}, {4, 4}}
	for _, gone := range []int{9, 10, 11, 12, 13, 14} {
		h, p := New(), &plain{}
		for _, e := range list {
			pushes(h, p, e.id, e.key)
		}
		removes(t, h, p, gone)
		drains(t, h, p)
	}
}

// P2.1: an id that was removed may come again, with another key.
func TestRemovedComesAgain(t *testing.T) {
	h := built(entry{1, 1}, entry{2, 2}, entry{3, 3})
	if !h.Remove(1) || h.Remove(1) {
		t.Error("Remove(1) is not true, and then false")
	}
	h.Push(1, 7)
	keyIs(t, h, 1, 7, true)
	if id, _, _ := h.Pop(); id != 2 {
		t.Errorf("Pop is %d", id)
	}
	keyIs(t, h, 2, 0, false)
	h.Push(2, 9)
	drainsTo(t, h, entry{3, 3}, entry{1, 7}, entry{2, 9})
}

// P2.1, P2.2: ids and keys below 0 and at the ends of int; nothing wraps round
// where they are held against each other.
func TestEnds(t *testing.T) {
	ends := []int{math.MinInt, math.MinInt + 1, -1, 0, 1, math.MaxInt - 1, math.MaxInt}
	for _, a := range ends {
		for _, b := range ends {
			h, p := New(), &plain{}
			pushes(h, p, a, b)
			pushes(h, p, b, a)
			for _, id := range ends {
				want, wantOK := p.key(id)
				keyIs(t, h, id, want, wantOK)
			}
			drains(t, h, p)
		}
	}
	h, p := New(), &plain{}
	for i, id := range ends {
		pushes(h, p, id, ends[len(ends)-1-i])
	}
	drains(t, h, p)
	for _, id := range []int{math.MaxInt, 0, math.MinInt} {
		pushes(h, p, id, math.MinInt)
	}
	drains(t, h, p)
}

// P2.1, P2.2: every way to go five steps with three ids and two keys.
func TestShortWays(t *testing.T) {
	const ids, keys = 3, 2
	const kinds = ids*keys + ids + 1
	for way := range kinds * kinds * kinds * kinds * kinds {
		h, p := New(), &plain{}
		for rest, n := way, 0; n < 5; rest, n = rest/kinds, n+1 {
			switch kind := rest % kinds; {
			case kind < ids*keys:
				pushes(h, p, kind%ids, kind/ids)
			case kind < ids*keys+ids:
				removes(t, h, p, kind-ids*keys)
			default:
				pops(t, h, p)
			}
			looks(t, h, p)
		}
		drains(t, h, p)
	}
}

// numbers answers numbers that look as if by chance, and are the same each
// time.
func numbers(seed uint64) func(below int) int {
	return func(below int) int {
		seed = seed*6364136223846793005 + 1442695040888963407
		return int(seed>>33) % below
	}
}

// P2.1, P2.2: many pushes, removals and pops, with few and with many ids and
// keys, in heaps that grow and shrink.
func TestManySteps(t *testing.T) {
	for _, row := range []struct{ ids, keys, steps int }{
		{4, 2, 3000}, {20, 3, 6000}, {20, 1000, 6000}, {300, 40, 12000}, {300, 100000, 12000},
	} {
		next := numbers(uint64(row.ids*row.keys + 1))
		h, p := New(), &plain{}
		for step := range row.steps {
			id := next(row.ids) - row.ids/2
			grows := step/(row.steps/6)%2 == 0
			switch kind := next(10); {
			case kind < 4, grows && kind < 8:
				pushes(h, p, id, next(row.keys)-row.keys/2)
			case kind < 7, grows && kind < 9:
				removes(t, h, p, id)
			default:
				pops(t, h, p)
			}
			looks(t, h, p)
			want, wantOK := p.key(id)
			keyIs(t, h, id, want, wantOK)
		}
		for id := -row.ids; id <= row.ids; id++ {
			want, wantOK := p.key(id)
			keyIs(t, h, id, want, wantOK)
		}
		drains(t, h, p)
	}
}

// P2.1, R5: two heaps know nothing of each other.
func TestApart(t *testing.T) {
	a, b := built(entry{1, 5}), New()
	b.Push(1, 9)
	b.Push(2, 3)
	keyIs(t, a, 1, 5, true)
	keyIs(t, a, 2, 0, false)
	drainsTo(t, a, entry{1, 5})
	drainsTo(t, b, entry{2, 3}, entry{1, 9})
}

// P2.1: of an id that is not there any more nothing is kept.
func TestNothingKept(t *testing.T) {
	h := New()
	for id := range 50 {
		h.Push(id, -id)
	}
	for id := range 20 {
		h.Remove(2 * id)
		h.Pop()
	}
	if len(h.places) != h.Len() {
		t.Errorf("%d places are known, of %d ids", len(h.places), h.Len())
	}
}

// P2.3
func TestNil(t *testing.T) {
	var h *Heap
	for range 2 {
		for _, n := range []int{0, 1, -1, math.MinInt, math.MaxInt} {
			keyIs(t, h, n, 0, false)
			removes(t, h, &plain{}, n)
			h.Push(n, n)
			keyIs(t, h, n, 0, false)
			removes(t, h, &plain{}, n)
		}
		looks(t, h, &plain{})
		pops(t, h, &plain{})
	}
	if h != nil {
		t.Error("a nil heap is not nil any more")
	}
}
