package epoch

import (
	"fmt"
	"math"
	"slices"
	"testing"

	"treillage/api"
	"treillage/forest"
	"treillage/op"
	"treillage/tree"
)

// told has all of what it is given.
func told(x any) string { return fmt.Sprintf("%#v", x) }

// both is what is gone of one record, and of one chunk, that no other number has.
func both(n uint64) tree.Gone { return tree.Gone{Recs: []uint64{n}, Chunks: []uint64{n + 1000}} }

func recs(l ...uint64) tree.Gone   { return tree.Gone{Recs: l} }
func chunks(l ...uint64) tree.Gone { return tree.Gone{Chunks: l} }

// handles is how many g has.
func handles(g tree.Gone) int { return len(g.Recs) + len(g.Chunks) }

func sameGone(a, b tree.Gone) bool {
	return slices.Equal(a.Recs, b.Recs) && slices.Equal(a.Chunks, b.Chunks)
}

func sameOld(a, b Old) bool { return a.Epoch == b.Epoch && sameGone(a.Gone, b.Gone) }

func same(a, b State) bool {
	return a.Now == b.Now && slices.Equal(a.Pins, b.Pins) && slices.EqualFunc(a.Limbo, b.Limbo, sameOld)
}

// roomy is a copy of l with room behind it, in which nobody may write either.
func roomy[T any](l []T) []T { return append(make([]T, 0, len(l)+3), l...) }

func roomyGone(g tree.Gone) tree.Gone {
	return tree.Gone{Recs: roomy(g.Recs), Chunks: roomy(g.Chunks)}
}

// kept is a copy that shares nothing with s, and whose lists have room behind them.
func kept(s State) State {
	c := State{Now: s.Now, Pins: roomy(s.Pins), Limbo: roomy(s.Limbo)}
	for i, o := range c.Limbo {
		c.Limbo[i].Gone = roomyGone(o.Gone)
	}
	return c
}

// fill writes over l, also behind its end.
func fill(l []uint64) {
	l = l[:cap(l)]
	for i := range l {
		l[i] = 77
	}
}

func scrawlGone(g tree.Gone) {
	fill(g.Recs)
	fill(g.Chunks)
}

// scrawl writes over all of a state that can be reached, also behind its lists' ends.
func scrawl(s State) {
	fill(s.Pins)
	l := s.Limbo[:cap(s.Limbo)]
	for i := range l {
		scrawlGone(l[i].Gone)
		l[i] = Old{Epoch: 99}
	}
}

// whole is all that lies in a state's lists, also behind their ends.
func whole(s State) string {
	text := told(s) + told(s.Pins[:cap(s.Pins)])
	for _, o := range s.Limbo[:cap(s.Limbo)] {
		text += told(o) + wholeGone(o.Gone)
	}
	return text
}

func wholeGone(g tree.Gone) string {
	return told(g.Recs[:cap(g.Recs)]) + told(g.Chunks[:cap(g.Chunks)])
}

func mustPin(t *testing.T, s State, r int, seen uint64) State {
	t.Helper()
	next, is := Pin(s, r, seen)
	if !is {
		t.Fatalf("Pin of %s, %d, %d is refused", told(s), r, seen)
	}
	return next
}

func mustUnpin(t *testing.T, s State, r int) State {
	t.Helper()
	next, is := Unpin(s, r)
	if !is {
		t.Fatalf("Unpin of %s, %d is refused", told(s), r)
	}
	return next
}

// mustAdvance asks that an Advance tells want.
func mustAdvance(t *testing.T, s State, want tree.Gone) State {
	t.Helper()
	if !May(s) {
		t.Fatalf("May of %s: false", told(s))
	}
	next, g, is := Advance(s)
	if !is || !sameGone(g, want) || next.Now != s.Now+1 {
		t.Fatalf("Advance of %s: %s, %s, %v, want told %s", told(s), told(next), told(g), is, told(want))
	}
	return next
}

// stands asks that s may not Advance, and stays.
func stands(t *testing.T, s State) {
	t.Helper()
	if May(s) {
		t.Errorf("May of %s: true", told(s))
	}
	if next, g, is := Advance(s); is || handles(g) != 0 || !same(next, s) {
		t.Errorf("Advance of %s: %s, %s, %v, want it as it was", told(s), told(next), told(g), is)
	}
}

// noPin asks that a Pin is refused, with the state as it was.
func noPin(t *testing.T, s State, r int, seen uint64) {
	t.Helper()
	if next, is := Pin(s, r, seen); is || !same(next, s) {
		t.Errorf("Pin of %s, %d, %d: %s, %v, want it as it was", told(s), r, seen, told(next), is)
	}
}

// noUnpin asks that an Unpin is refused, with the state as it was.
func noUnpin(t *testing.T, s State, r int) {
	t.Helper()
	if next, is := Unpin(s, r); is || !same(next, s) {
		t.Errorf("Unpin of %s, %d: %s, %v, want it as it was", told(s), r, told(next), is)
	}
}

// at is a state of that epoch and so many readers, of which nobody holds anything, and in which nothing waits.
func at(t *testing.T, readers int, now uint64) State {
	t.Helper()
	s := New(readers)
	for range now {
		s = mustAdvance(t, s, tree.Gone{})
	}
	return s
}

// noReaders are numbers that are no reader's, of so many.
func noReaders(readers int) []int {
	return []int{-1, -2, readers, readers + 1, api.MaxClients, math.MinInt, math.MaxInt}
}

// P14.1
func TestNew(t *testing.T) {
	for readers, want := range map[int]int{
		0: 0, 1: 1, 2: 2, 3: 3, 4: 4,
		-1: 0, -4: 0, math.MinInt: 0,
		5: 4, 9: 4, 1 << 32: 4, math.MaxInt: 4,
	} {
		s := New(readers)
		if !same(s, State{Pins: make([]uint64, want)}) {
			t.Errorf("New(%d): %s, want %d readers that hold nothing", readers, told(s), want)
		}
		if !May(s) {
			t.Errorf("New(%d): it may not Advance", readers)
		}
	}
	if api.MaxClients != 4 {
		t.Error("the table asks for others than MaxClients")
	}
}

// P14.1
func TestPin(t *testing.T) {
	for now := range uint64(4) {
		s := at(t, 3, now)
		for seen := range now + 1 {
			for r := range 3 {
				want := kept(s)
				want.Pins[r] = seen + 1
				if next := mustPin(t, s, r, seen); !same(next, want) {
					t.Errorf("Pin of %s, %d, %d: %s", told(s), r, seen, told(next))
				}
			}
		}
	}
}

// P14.1
func TestAllReadersPin(t *testing.T) {
	s := at(t, api.MaxClients, 2)
	for r, seen := range []uint64{2, 0, 1, 2} {
		s = mustPin(t, s, r, seen)
	}
	if !slices.Equal(s.Pins, []uint64{3, 1, 2, 3}) {
		t.Errorf("pins %v", s.Pins)
	}
	s = mustUnpin(t, s, 1)
	s = mustUnpin(t, s, 3)
	if !slices.Equal(s.Pins, []uint64{3, 0, 2, 0}) {
		t.Errorf("pins %v", s.Pins)
	}
	s = mustPin(t, s, 1, 1)
	if !slices.Equal(s.Pins, []uint64{3, 2, 2, 0}) {
		t.Errorf("pins %v", s.Pins)
	}
}

// P14.1
func TestPinOfNoReader(t *testing.T) {
	for readers := range api.MaxClients + 1 {
		for _, now := range []uint64{0, 2} {
			s := Retire(at(t, readers, now), both(1))
			for _, r := range noReaders(readers) {
				noPin(t, s, r, 0)
				noPin(t, s, r, now)
				noPin(t, s, r, now+1)
				noUnpin(t, s, r)
			}
		}
	}
}

// P14.1
func TestPinOfOneThatHolds(t *testing.T) {
	for held := range uint64(3) {
		s := mustPin(t, Retire(at(t, 2, 2), both(1)), 1, held)
		for _, seen := range []uint64{0, 1, 2, 3, math.MaxUint64} {
			noPin(t, s, 1, seen)
		}
		s = mustUnpin(t, s, 1)
		s = mustPin(t, s, 1, 0)
		noPin(t, s, 1, held)
	}
}

// P14.1
func TestPinOfWhatIsNotYet(t *testing.T) {
	for now := range uint64(3) {
		s := Retire(at(t, 2, now), both(1))
		for _, seen := range []uint64{now + 1, now + 2, 1 << 32, 1 << 63, math.MaxUint64 - 1, math.MaxUint64} {
			noPin(t, s, 0, seen)
			noPin(t, s, 1, seen)
		}
	}
}

// P14.1
func TestUnpin(t *testing.T) {
	for seen := range uint64(3) {
		s := Retire(at(t, 3, 2), both(1))
		for r := range 3 {
			noUnpin(t, s, r)
			held := mustPin(t, s, r, seen)
			free := mustUnpin(t, held, r)
			if !same(free, s) {
				t.Errorf("Unpin of %s, %d: %s", told(held), r, told(free))
			}
			noUnpin(t, free, r)
			for other := range 3 {
				if other != r {
					noUnpin(t, held, other)
				}
			}
		}
	}
}

// P14.1
func TestUnpinAtALaterEpoch(t *testing.T) {
	s := mustPin(t, at(t, 2, 1), 0, 1)
	s = mustAdvance(t, s, tree.Gone{})
	s = mustUnpin(t, s, 0)
	if !same(s, State{Now: 2, Pins: []uint64{0, 0}}) {
		t.Errorf("it is %s", told(s))
	}
}

// P14.2
func TestRetire(t *testing.T) {
	s := New(1)
	l := []tree.Gone{both(1), recs(2, 3), chunks(4, 5, 6), {Recs: []uint64{0}}, {Chunks: []uint64{0, 0}}, both(1)}
	var want []Old
	for _, now := range []uint64{0, 1, 1} {
		for _, g := range l {
			s = Retire(s, g)
			want = append(want, Old{now, g})
			if !same(s, State{now, []uint64{0}, want}) {
				t.Fatalf("Retire of %s at %d: %s", told(g), now, told(s))
			}
		}
		if now == 0 {
			s = mustAdvance(t, s, tree.Gone{})
		}
	}
}

// P14.2
func TestRetireOfNothing(t *testing.T) {
	for _, s := range []State{New(0), New(4), at(t, 2, 3), Retire(New(2), both(1)), mustPin(t, New(2), 1, 0)} {
		for _, g := range []tree.Gone{{}, {Recs: []uint64{}}, {Chunks: []uint64{}}, {Recs: []uint64{}, Chunks: []uint64{}}} {
			if next := Retire(s, g); !same(next, s) {
				t.Errorf("Retire of %s, %s: %s", told(s), told(g), told(next))
			}
		}
	}
}

// P14.2
func TestRetireWhileHeld(t *testing.T) {
	s := mustPin(t, mustPin(t, at(t, 3, 2), 0, 0), 1, 2)
	want := State{2, []uint64{1, 3, 0}, []Old{{2, both(7)}}}
	if next := Retire(s, both(7)); !same(next, want) {
		t.Errorf("Retire of %s: %s", told(s), told(next))
	}
}

// P14.2
func TestMay(t *testing.T) {
	const now = 3
	for _, x := range []struct {
		pins []uint64
		is   bool
	}{
		{nil, true},
		{[]uint64{0}, true},
		{[]uint64{4}, true},
		{[]uint64{3}, false},
		{[]uint64{2}, false},
		{[]uint64{1}, false},
		{[]uint64{0, 0, 0, 0}, true},
		{[]uint64{4, 4, 4, 4}, true},
		{[]uint64{0, 4, 0, 4}, true},
		{[]uint64{3, 0, 0, 0}, false},
		{[]uint64{0, 4, 3, 4}, false},
		{[]uint64{4, 4, 4, 3}, false},
		{[]uint64{0, 0, 0, 1}, false},
		{[]uint64{1, 2, 3, 4}, false},
	} {
		s := Retire(at(t, len(x.pins), now), both(1))
		for r, p := range x.pins {
			if p != 0 {
				s = mustPin(t, s, r, p-1)
			}
		}
		if is := May(s); is != x.is {
			t.Errorf("May of %v at %d: %v", x.pins, now, is)
		}
		if !x.is {
			stands(t, s)
			continue
		}
		next := mustAdvance(t, s, tree.Gone{})
		if !same(next, State{now + 1, x.pins, []Old{{now, both(1)}}}) {
			t.Errorf("Advance of %s: %s", told(s), told(next))
		}
	}
}

// P14.2, the chapter's example
func TestExample(t *testing.T) {
	for _, g := range []tree.Gone{both(1), recs(2), chunks(3), {Recs: []uint64{4, 5}, Chunks: []uint64{6}}} {
		s := Retire(New(2), g)
		s = mustAdvance(t, s, tree.Gone{})
		if !same(s, State{1, []uint64{0, 0}, []Old{{0, g}}}) {
			t.Errorf("behind the first Advance it is %s", told(s))
		}
		s = mustAdvance(t, s, g)
		if !same(s, State{Now: 2, Pins: []uint64{0, 0}}) {
			t.Errorf("behind the second Advance it is %s", told(s))
		}
		mustAdvance(t, s, tree.Gone{})
	}
}

// P14.2
func TestAdvanceTellsInOrder(t *testing.T) {
	s := New(1)
	// At an epoch what is retired has high handles first, so that no order of numbers is the right one.
	for _, g := range []tree.Gone{{Recs: []uint64{9, 3}, Chunks: []uint64{8}}, chunks(2, 7), recs(5), {Recs: []uint64{1}, Chunks: []uint64{6, 6}}} {
		s = Retire(s, g)
	}
	s = mustAdvance(t, s, tree.Gone{})
	s = Retire(Retire(s, recs(40)), chunks(30))
	s = mustAdvance(t, s, tree.Gone{Recs: []uint64{9, 3, 5, 1}, Chunks: []uint64{8, 2, 7, 6, 6}})
	if !same(s, State{2, []uint64{0}, []Old{{1, recs(40)}, {1, chunks(30)}}}) {
		t.Errorf("it is %s", told(s))
	}
	s = Retire(s, both(20))
	s = mustAdvance(t, s, tree.Gone{Recs: []uint64{40}, Chunks: []uint64{30}})
	if !same(s, State{3, []uint64{0}, []Old{{2, both(20)}}}) {
		t.Errorf("it is %s", told(s))
	}
	s = mustAdvance(t, s, both(20))
	if !same(s, State{Now: 4, Pins: []uint64{0}}) {
		t.Errorf("it is %s", told(s))
	}
}

// P14.2
func TestAdvanceOfEachEpoch(t *testing.T) {
	s := New(0)
	for now := range uint64(50) {
		s = Retire(s, both(now))
		want := tree.Gone{}
		if now >= 1 {
			want = both(now - 1)
		}
		s = mustAdvance(t, s, want)
		if !same(s, State{Now: now + 1, Limbo: []Old{{now, both(now)}}}) {
			t.Fatalf("behind the epoch %d it is %s", now, told(s))
		}
	}
}

// P14.2: an Advance that was held up tells as much as if nobody had, but later.
func TestAdvanceTellsNothingTwice(t *testing.T) {
	s := mustPin(t, New(2), 0, 0)
	s = Retire(s, both(1))
	s = mustAdvance(t, s, tree.Gone{})
	s = Retire(s, both(2))
	stands(t, s)
	s = Retire(s, both(3))
	stands(t, s)
	s = mustUnpin(t, s, 0)
	s = mustAdvance(t, s, both(1))
	s = mustAdvance(t, s, tree.Gone{Recs: []uint64{2, 3}, Chunks: []uint64{1002, 1003}})
	mustAdvance(t, s, tree.Gone{})
}

// P14.2, P14.3: readers pin, the epoch goes on, and they unpin in turn.
func TestReadersInTurn(t *testing.T) {
	s := New(3)
	s = mustPin(t, s, 0, 0)
	s = Retire(s, both(1))
	s = mustAdvance(t, s, tree.Gone{})
	s = mustPin(t, s, 1, 1)
	s = Retire(s, both(2))
	stands(t, s)
	s = mustPin(t, s, 2, 0)
	s = mustUnpin(t, s, 0)
	stands(t, s)
	s = mustUnpin(t, s, 2)
	s = mustAdvance(t, s, both(1))
	s = mustPin(t, s, 0, 2)
	stands(t, s)
	s = mustUnpin(t, s, 1)
	s = Retire(s, both(3))
	s = mustAdvance(t, s, both(2))
	stands(t, s)
	s = mustUnpin(t, s, 0)
	s = mustAdvance(t, s, both(3))
	if !same(s, State{Now: 4, Pins: make([]uint64, 3)}) {
		t.Errorf("it is %s", told(s))
	}
}

// P14.2: a reader loads the epoch, and holds it only when others have gone on.
func TestLoadedLongAgo(t *testing.T) {
	s := Retire(at(t, 2, 3), both(1))
	s = mustAdvance(t, s, tree.Gone{})
	for seen := range uint64(4) {
		held := mustPin(t, s, 1, seen)
		stands(t, held)
		mustAdvance(t, mustUnpin(t, held, 1), both(1))
	}
	held := mustAdvance(t, mustPin(t, s, 1, 4), both(1))
	stands(t, held)
}

// P14.3
func TestWhatIsHeldIsNotTold(t *testing.T) {
	for now := range uint64(4) {
		for seen := range now + 1 {
			for ahead := range 3 {
				s := mustPin(t, at(t, api.MaxClients, now), ahead, seen)
				for n := range uint64(6) {
					s = Retire(s, both(n))
					next, g, is := Advance(s)
					if handles(g) != 0 {
						t.Errorf("held at %d, seen %d: Advance tells %s", now, seen, told(g))
					}
					if is != (seen == s.Now) {
						t.Errorf("held at %d, seen %d, now %d: Advance is %v", now, seen, s.Now, is)
					}
					s = next
				}
				if len(s.Limbo) != 6 {
					t.Errorf("held at %d, seen %d: it is %s", now, seen, told(s))
				}
				tellsAll(t, mustUnpin(t, s, ahead))
			}
		}
	}
}

// tellsAll asks that two Advances tell all that waits, in order, each once.
func tellsAll(t *testing.T, s State) {
	t.Helper()
	var all, want tree.Gone
	for _, o := range s.Limbo {
		want = with(want, o.Gone)
	}
	for range 2 {
		next, g, is := Advance(s)
		if !is {
			t.Fatalf("Advance of %s is refused", told(s))
		}
		s, all = next, with(all, g)
	}
	if !sameGone(all, want) || len(s.Limbo) != 0 {
		t.Errorf("two Advances tell %s of %s, and %s waits", told(all), told(want), told(s.Limbo))
	}
}

// with is a, and b behind it.
func with(a, b tree.Gone) tree.Gone {
	return tree.Gone{Recs: slices.Concat(a.Recs, b.Recs), Chunks: slices.Concat(a.Chunks, b.Chunks)}
}

// P14.3
func TestTwoAdvancesTellAll(t *testing.T) {
	tellsAll(t, New(0))
	for many := range uint64(5) {
		for later := range uint64(5) {
			s := at(t, 2, 1)
			for n := range many {
				s = Retire(s, both(n))
			}
			s = mustAdvance(t, s, tree.Gone{})
			for n := range later {
				s = Retire(s, both(50-n))
			}
			tellsAll(t, s)
		}
	}
}

// dice throws numbers that are the same in each run.
type dice uint32

func (d *dice) roll(n int) int {
	*d = *d*1664525 + 1013904223
	return int(*d>>8) % n
}

// thing was retired; whoever held an epoch then must have let it go before it is told.
type thing struct {
	epoch   uint64
	gone    tree.Gone
	holders map[int]bool
}

// model says by the chapter's words what each call must answer: it keeps who holds which epoch, and not the pins.
type model struct {
	readers int
	now     uint64
	holds   map[int]uint64
	waits   []thing
}

func newModel(readers int) *model { return &model{readers: readers, holds: map[int]uint64{}} }

func (m *model) state() State {
	s := State{Now: m.now, Pins: make([]uint64, m.readers)}
	for r, e := range m.holds {
		s.Pins[r] = e + 1
	}
	for _, x := range m.waits {
		s.Limbo = append(s.Limbo, Old{x.epoch, x.gone})
	}
	return s
}

func (m *model) pin(r int, seen uint64) bool {
	_, held := m.holds[r]
	if r < 0 || r >= m.readers || held || seen > m.now {
		return false
	}
	m.holds[r] = seen
	return true
}

func (m *model) unpin(r int) bool {
	_, held := m.holds[r]
	delete(m.holds, r)
	for _, x := range m.waits {
		delete(x.holders, r)
	}
	return held
}

func (m *model) retire(g tree.Gone) {
	if handles(g) == 0 {
		return
	}
	holders := map[int]bool{}
	for r := range m.holds {
		holders[r] = true
	}
	m.waits = append(m.waits, thing{m.now, g, holders})
}

func (m *model) advance(t *testing.T) (tree.Gone, bool) {
	t.Helper()
	for _, e := range m.holds {
		if e != m.now {
			return tree.Gone{}, false
		}
	}
	m.now++
	var g tree.Gone
	var stay []thing
	for _, x := range m.waits {
		if m.now-x.epoch < 2 {
			stay = append(stay, x)
			continue
		}
		if len(x.holders) != 0 {
			t.Fatalf("at %d what was retired at %d is told, and %v hold it", m.now, x.epoch, x.holders)
		}
		g = with(g, x.gone)
	}
	m.waits = stay
	return g, true
}

// step does a call of both, asks that they answer alike, and that what was handed in stays.
func step(t *testing.T, s State, m *model, call, r int, seen uint64, g tree.Gone) State {
	t.Helper()
	old, oldGone := whole(s), wholeGone(g)
	var next State
	var is, want bool
	var left, wantLeft tree.Gone
	switch call {
	case 0:
		next, is = Pin(s, r, seen)
		want = m.pin(r, seen)
	case 1:
		next, is = Unpin(s, r)
		want = m.unpin(r)
	case 2:
		next = Retire(s, g)
		m.retire(g)
	default:
		may := May(s)
		next, left, is = Advance(s)
		wantLeft, want = m.advance(t)
		if may != want {
			t.Fatalf("May of %s: %v", told(s), may)
		}
	}
	if is != want || !sameGone(left, wantLeft) || !same(next, m.state()) {
		t.Fatalf("call %d of %s, %d, %d, %s: %s, %s, %v; want %s, %s, %v", call, told(s), r, seen, told(g), told(next), told(left), is, told(m.state()), told(wantLeft), want)
	}
	if whole(s) != old || wholeGone(g) != oldGone {
		t.Fatalf("call %d changed what it was handed: %s is %s, and %s", call, old, whole(s), wholeGone(g))
	}
	return next
}

// thrownGone has few handles of each kind, or none.
func thrownGone(d *dice) tree.Gone {
	var g tree.Gone
	for range d.roll(4) {
		g.Recs = append(g.Recs, uint64(d.roll(1000)))
	}
	for range d.roll(3) {
		g.Chunks = append(g.Chunks, uint64(d.roll(1000)))
	}
	return g
}

// P14.1, P14.2, P14.3
func TestRuns(t *testing.T) {
	for run := range 60 {
		d := dice(run)
		readers := run % (api.MaxClients + 1)
		s, m := New(readers), newModel(readers)
		for range 200 {
			seen := uint64(max(0, int(m.now)+1-d.roll(4)))
			// Two of the numbers are no reader's: the one ahead of the first, and the one behind the last.
			s = step(t, kept(s), m, d.roll(4), d.roll(readers+2)-1, seen, roomyGone(thrownGone(&d)))
		}
		for r := range readers {
			s, _ = Unpin(s, r)
		}
		tellsAll(t, s)
	}
}

// P14.1, P14.2, P14.3: all runs of six calls of two readers.
func TestShortRuns(t *testing.T) {
	const calls, long = 6, 6
	runs := 1
	for range long {
		runs *= calls
	}
	for run := range runs {
		s, m := New(2), newModel(2)
		for i, rest := 0, run; i < long; i, rest = i+1, rest/calls {
			c := rest % calls
			switch {
			case c < 2: // a reader that holds nothing holds the oldest epoch that matters
				s = toggled(t, s, m, c, uint64(max(0, int(m.now)-1)))
			case c < 4: // or the newest one
				s = toggled(t, s, m, c-2, m.now)
			default:
				s = step(t, s, m, c-2, 0, 0, both(uint64(i)))
			}
		}
	}
}

// toggled has r unpin, if it holds an epoch, and pin, if it does not.
func toggled(t *testing.T, s State, m *model, r int, seen uint64) State {
	t.Helper()
	call := 0
	if _, held := m.holds[r]; held {
		call = 1
	}
	return step(t, s, m, call, r, seen, tree.Gone{})
}

// middling is a state with all that a state can have.
func middling(t *testing.T) State {
	t.Helper()
	s := Retire(Retire(at(t, 4, 2), both(1)), recs(2, 3))
	s = mustPin(t, mustAdvance(t, s, tree.Gone{}), 1, 3)
	return Retire(Retire(s, chunks(4, 5)), tree.Gone{Recs: []uint64{6, 7}, Chunks: []uint64{8, 9}})
}

// calls are all of the package's own, each as one of a state that answers a state, and what else it answers as a Gone.
func calls() map[string]func(State, tree.Gone) (State, tree.Gone) {
	type call = func(State, tree.Gone) (State, tree.Gone)
	pin := func(r int, seen uint64) call {
		return func(s State, _ tree.Gone) (State, tree.Gone) {
			next, _ := Pin(s, r, seen)
			return next, tree.Gone{}
		}
	}
	unpin := func(r int) call {
		return func(s State, _ tree.Gone) (State, tree.Gone) {
			next, _ := Unpin(s, r)
			return next, tree.Gone{}
		}
	}
	return map[string]call{
		"Pin":             pin(0, 1),
		"Pin of none":     pin(9, 1),
		"Pin of a holder": pin(1, 1),
		"Pin of later":    pin(0, 9),
		"Unpin":           unpin(1),
		"Unpin of none":   unpin(-1),
		"Unpin of free":   unpin(0),
		"Retire":          func(s State, g tree.Gone) (State, tree.Gone) { return Retire(s, g), tree.Gone{} },
		"Retire nothing":  func(s State, _ tree.Gone) (State, tree.Gone) { return Retire(s, tree.Gone{}), tree.Gone{} },
		"May":             func(s State, _ tree.Gone) (State, tree.Gone) { May(s); return State{}, tree.Gone{} },
		"Advance": func(s State, _ tree.Gone) (State, tree.Gone) {
			next, g, _ := Advance(s)
			return next, g
		},
		"Advance refused": func(s State, _ tree.Gone) (State, tree.Gone) {
			held, _ := Pin(s, 0, 0)
			next, g, _ := Advance(held)
			return next, g
		},
	}
}

// R4
func TestWhatIsHandedInStays(t *testing.T) {
	for name, call := range calls() {
		for _, s := range []State{middling(t), New(0), New(4)} {
			s, g := kept(s), roomyGone(tree.Gone{Recs: []uint64{11, 12}, Chunks: []uint64{13}})
			old, oldGone := whole(s), wholeGone(g)
			call(s, g)
			if whole(s) != old || wholeGone(g) != oldGone {
				t.Errorf("%s changed what it was handed: %s, %s", name, whole(s), wholeGone(g))
			}
		}
	}
}

// R4
func TestAnswersShareNothing(t *testing.T) {
	for name, call := range calls() {
		s, g := kept(middling(t)), roomyGone(tree.Gone{Recs: []uint64{11, 12}, Chunks: []uint64{13}})
		old, oldGone := whole(s), wholeGone(g)
		next, left := call(s, g)
		want, wantLeft := kept(next), roomyGone(left)
		scrawlGone(left)
		if !same(next, want) {
			t.Errorf("%s: the state is in what is told", name)
		}
		scrawl(next)
		if whole(s) != old || wholeGone(g) != oldGone {
			t.Errorf("%s: writing over what is answered changed what was handed in", name)
		}
		next, left = call(s, g)
		scrawl(s)
		scrawlGone(g)
		if !same(next, want) || !sameGone(left, wantLeft) {
			t.Errorf("%s: writing over what was handed in changed what was answered", name)
		}
	}
}

// R4
func TestListsOfAStateShareNothing(t *testing.T) {
	s := Retire(Retire(Retire(New(2), recs(1)), chunks(2)), both(3))
	for i := range s.Limbo {
		c := kept(s)
		next := Retire(s, both(4))
		scrawlGone(next.Limbo[i].Gone)
		for j, o := range next.Limbo[:3] {
			if j != i && !sameOld(o, c.Limbo[j]) {
				t.Errorf("what waits at %d lies in what waits at %d", j, i)
			}
		}
	}
	g := tree.Gone{Recs: []uint64{5, 6}}
	g.Chunks = g.Recs[:1]
	next := Retire(New(0), g)
	next.Limbo[0].Gone.Recs[0] = 77
	if next.Limbo[0].Gone.Chunks[0] != 5 {
		t.Error("records and chunks share a list")
	}
}

// R6
func TestEmptyListsAreAlike(t *testing.T) {
	none := State{Pins: nil, Limbo: nil}
	empty := State{Pins: []uint64{}, Limbo: []Old{}}
	for name, call := range calls() {
		a, g := call(none, both(1))
		b, h := call(empty, both(1))
		if !same(a, b) || !sameGone(g, h) {
			t.Errorf("%s: %s and %s", name, told(a), told(b))
		}
	}
	if !May(none) || !May(empty) {
		t.Error("May of no reader")
	}
	a := Retire(New(1), tree.Gone{Recs: []uint64{1}, Chunks: nil})
	b := Retire(New(1), tree.Gone{Recs: []uint64{1}, Chunks: []uint64{}})
	if !same(a, b) {
		t.Errorf("Retire: %s and %s", told(a), told(b))
	}
}

// Of states that no call leads to nothing is said, but that calls end.
func TestOtherStates(t *testing.T) {
	for _, s := range []State{
		{Now: math.MaxUint64, Pins: []uint64{0, math.MaxUint64}},
		{Now: math.MaxUint64, Pins: []uint64{0}, Limbo: []Old{{math.MaxUint64, both(1)}, {0, both(2)}}},
		{Now: 1, Pins: make([]uint64, 9), Limbo: []Old{{7, both(1)}, {0, tree.Gone{}}}},
		{Now: 5, Pins: []uint64{9, 3}, Limbo: []Old{{math.MaxUint64 - 1, both(1)}}},
	} {
		for _, call := range calls() {
			call(s, both(3))
		}
	}
}

// chain are transactions that make an element, and then put another one below the last, and take the first out.
func chain() [][]op.Op {
	l := [][]op.Op{{{Kind: op.NewElement, Name: "a"}, {Kind: op.Insert, Id: 1, To: 0, At: 0}}}
	for id := 2; id < 8; id++ {
		l = append(l, []op.Op{{Kind: op.NewElement, Name: "b"}, {Kind: op.Insert, Id: id, To: id - 1, At: 0}})
	}
	return append(l, []op.Op{{Kind: op.Remove, Id: 1}})
}

// P14.3: a version that is held can be read, and when nobody holds any, the last one is all that there is.
func TestVersionsOfATree(t *testing.T) {
	x, v, e := tree.New(60, 60)
	if e != api.OK {
		t.Fatal(e)
	}
	type reader struct {
		v    tree.Version
		text string
	}
	text := func(v tree.Version) string {
		f, e := tree.Read(x, v)
		if e != api.OK {
			t.Fatalf("a version that is held has error %d", e)
		}
		return forest.Print(f, 0)
	}
	free := func(g tree.Gone) {
		if x, e = tree.Free(x, g); e != api.OK {
			t.Fatalf("Free of %s: error %d", told(g), e)
		}
	}
	s, held := New(3), map[int]reader{}
	for i, l := range chain() {
		r := i % 3
		if _, is := held[r]; is {
			s = mustUnpin(t, s, r)
		}
		s, held[r] = mustPin(t, s, r, s.Now), reader{v, text(v)}
		next, w, left, _, e := tree.Apply(x, v, l)
		if e != api.OK {
			t.Fatal(e)
		}
		x, v, s = next, w, Retire(s, left)
		after, g, _ := Advance(s)
		s = after
		free(g)
		for _, h := range held {
			if text(h.v) != h.text {
				t.Errorf("%s is %s", h.text, text(h.v))
			}
		}
	}
	for r := range held {
		s = mustUnpin(t, s, r)
	}
	for range 2 {
		after, g, _ := Advance(s)
		s = after
		free(g)
	}
	all, _ := tree.Reach(x, v)
	if recs, chunks := tree.Live(x); recs != len(all.Recs) || chunks != len(all.Chunks) {
		t.Errorf("%d records and %d chunks are live, and the version has %d and %d", recs, chunks, len(all.Recs), len(all.Chunks))
	}
}

// FuzzEpoch: any run of calls, three bytes each, against the model.
func FuzzEpoch(f *testing.F) {
	f.Add(2, []byte{2, 1, 1, 3, 0, 0, 3, 0, 0})
	f.Add(4, []byte{0, 1, 0, 2, 9, 3, 3, 0, 0, 3, 0, 0, 1, 1, 0, 3, 0, 0})
	f.Add(-7, []byte{3, 0, 0, 0, 0, 0})
	f.Fuzz(func(t *testing.T, readers int, l []byte) {
		s, m := New(readers), newModel(min(max(readers, 0), api.MaxClients))
		for ; len(l) >= 3; l = l[3:] {
			d := dice(l[2])
			seen := uint64(l[2]) & 7
			if l[0]&16 != 0 {
				seen = m.now - seen // also far above now
			}
			s = step(t, kept(s), m, int(l[0]&3), int(int8(l[1]))%6, seen, roomyGone(thrownGone(&d)))
		}
	})
}
