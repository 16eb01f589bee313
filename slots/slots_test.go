package slots

import (
	"math"
	"slices"
	"testing"

	"treillage/api"
)

const lastIndex = 1<<24 - 1

// of is a handle as the document lays it out, made without the package that slots itself makes it by.
func of(index int, gen uint64) uint64 { return gen<<24 | uint64(index) }

// kept is a copy that shares nothing with s.
func kept(s State) State {
	return State{Gens: slices.Clone(s.Gens), Used: slices.Clone(s.Used), Free: slices.Clone(s.Free)}
}

func same(a, b State) bool {
	return slices.Equal(a.Gens, b.Gens) && slices.Equal(a.Used, b.Used) && slices.Equal(a.Free, b.Free)
}

// scrawl writes over all of a state that can be reached, also behind its lists' ends.
func scrawl(s State) {
	for i, l := 0, s.Gens[:cap(s.Gens)]; i < len(l); i++ {
		l[i] = 77
	}
	for i, l := 0, s.Used[:cap(s.Used)]; i < len(l); i++ {
		l[i] = !l[i]
	}
	for i, l := 0, s.Free[:cap(s.Free)]; i < len(l); i++ {
		l[i] = 99
	}
}

func mustNew(t *testing.T, many int) State {
	t.Helper()
	s, e := New(many)
	if e != api.OK {
		t.Fatalf("New(%d): error %d", many, e)
	}
	return s
}

func mustTake(t *testing.T, s State) (State, uint64) {
	t.Helper()
	next, h, e := Take(s)
	if e != api.OK {
		t.Fatalf("Take of %v: error %d", s, e)
	}
	return next, h
}

func mustGive(t *testing.T, s State, h uint64) State {
	t.Helper()
	next, e := Give(s, h)
	if e != api.OK {
		t.Fatalf("Give of %v, %#x: error %d", s, h, e)
	}
	return next
}

// taken is an arena of which all slots are taken, with their handles.
func taken(t *testing.T, many int) (State, []uint64) {
	t.Helper()
	s := mustNew(t, many)
	l := make([]uint64, many)
	for i := range many {
		s, l[i] = mustTake(t, s)
	}
	return s, l
}

// isStale asks that h is not live, and that giving it back is refused with the state as it was.
func isStale(t *testing.T, s State, h uint64) {
	t.Helper()
	if Live(s, h) {
		t.Errorf("%#x is live in %v", h, s)
	}
	if u, e := Give(s, h); e != api.ErrStale || !same(u, s) {
		t.Errorf("Give of %v, %#x = %v, %d", s, h, u, e)
	}
}

// model is an arena by its rules alone: who is taken, how often each slot was given back, and who is next.
type model struct {
	many  int
	taken map[int]bool
	given map[int]uint64
	next  []int // the one that is taken first stands first
}

func newModel(many int) *model {
	m := &model{many: many, taken: map[int]bool{}, given: map[int]uint64{}}
	for i := 0; i < many; i++ {
		m.next = append(m.next, i)
	}
	return m
}

func (m *model) copy() *model {
	c := newModel(m.many)
	for i := 0; i < m.many; i++ {
		c.taken[i], c.given[i] = m.taken[i], m.given[i]
	}
	c.next = slices.Clone(m.next)
	return c
}

func (m *model) handle(i int) uint64 { return of(i, 1+m.given[i]) }

func (m *model) live(h uint64) bool {
	i := int(h & lastIndex)
	return i < m.many && m.taken[i] && m.handle(i) == h
}

func (m *model) take() (uint64, api.Errno) {
	if len(m.next) == 0 {
		return 0, api.ErrFull
	}
	i := m.next[0]
	m.next = m.next[1:]
	m.taken[i] = true
	return m.handle(i), api.OK
}

func (m *model) give(h uint64) api.Errno {
	if !m.live(h) {
		return api.ErrStale
	}
	i := int(h & lastIndex)
	m.taken[i] = false
	m.given[i]++
	m.next = append([]int{i}, m.next...)
	return api.OK
}

func (m *model) all() []uint64 {
	var l []uint64
	for i := 0; i < m.many; i++ {
		if m.taken[i] {
			l = append(l, m.handle(i))
		}
	}
	return l
}

func (m *model) state() State {
	var s State
	for i := 0; i < m.many; i++ {
		s.Gens = append(s.Gens, 1+m.given[i])
		s.Used = append(s.Used, m.taken[i])
	}
	s.Free = slices.Clone(m.next)
	slices.Reverse(s.Free)
	return s
}

// step takes, or gives back what, in the state and in the model, and holds them against each other.
func step(t *testing.T, s State, m *model, takes bool, what uint64) State {
	t.Helper()
	was := kept(s)
	var next State
	if takes {
		n, h, e := Take(s)
		wantH, wantE := m.take()
		if h != wantH || e != wantE {
			t.Fatalf("Take of %v = %#x, %d, want %#x, %d", was, h, e, wantH, wantE)
		}
		next = n
	} else {
		n, e := Give(s, what)
		if want := m.give(what); e != want {
			t.Fatalf("Give of %v, %#x = %d, want %d", was, what, e, want)
		}
		next = n
	}
	if !same(s, was) {
		t.Fatalf("%v was changed to %v", was, s)
	}
	if !same(next, m.state()) {
		t.Fatalf("%v became %v, want %v", was, next, m.state())
	}
	if !slices.Equal(All(next), m.all()) {
		t.Fatalf("All of %v = %#x, want %#x", next, All(next), m.all())
	}
	return next
}

// P3.1
func TestNew(t *testing.T) {
	for many := 0; many <= api.MaxSlots; many++ {
		s := mustNew(t, many)
		if len(s.Gens) != many || len(s.Used) != many || len(s.Free) != many {
			t.Fatalf("New(%d): %d, %d, %d", many, len(s.Gens), len(s.Used), len(s.Free))
		}
		for i := range many {
			if s.Gens[i] != 1 || s.Used[i] || s.Free[i] != many-1-i {
				t.Fatalf("New(%d), at %d: %d, %v, %d", many, i, s.Gens[i], s.Used[i], s.Free[i])
			}
		}
		if l := All(s); len(l) != 0 {
			t.Errorf("New(%d): %#x are taken", many, l)
		}
	}
}

// P3.1: the next one is 0, then 1, and so on.
func TestNewIsTakenInOrder(t *testing.T) {
	for _, many := range []int{1, 2, 3, 7, 64, 499, 500} {
		_, l := taken(t, many)
		for i, h := range l {
			if h != of(i, 1) {
				t.Fatalf("New(%d): the handle %d is %#x", many, i, h)
			}
		}
	}
}

// P3.1, R3
func TestNewOfWrongNumbers(t *testing.T) {
	for _, many := range []int{-1, -2, -500, -501, math.MinInt, math.MinInt + 1, math.MinInt32, 501, 502, 1000, math.MaxInt32, 1 << 32, 1<<32 + 3, math.MaxInt} {
		s, e := New(many)
		if e != api.ErrArg || s.Gens != nil || s.Used != nil || s.Free != nil {
			t.Errorf("New(%d) = %v, %d", many, s, e)
		}
	}
	if s, e := New(500); e != api.OK || len(s.Gens) != 500 {
		t.Error("New(500)", e)
	}
	if s, e := New(0); e != api.OK || len(s.Gens)+len(s.Used)+len(s.Free) != 0 {
		t.Error("New(0)", s, e)
	}
}

// P3.2: the document's example.
func TestTakeGiveTake(t *testing.T) {
	s := mustNew(t, 1)
	s, h := mustTake(t, s)
	if h != of(0, 1) || !same(s, State{Gens: []uint64{1}, Used: []bool{true}}) {
		t.Errorf("%#x, %v", h, s)
	}
	s = mustGive(t, s, h)
	if !same(s, State{Gens: []uint64{2}, Used: []bool{false}, Free: []int{0}}) {
		t.Error(s)
	}
	s, h = mustTake(t, s)
	if h != of(0, 2) || !same(s, State{Gens: []uint64{2}, Used: []bool{true}}) {
		t.Errorf("%#x, %v", h, s)
	}
}

// P3.2: none is free, of whatever size, at once or later.
func TestTakeWhenNoneIsFree(t *testing.T) {
	for _, many := range []int{0, 1, 2, 3, 500} {
		s, l := taken(t, many)
		for range 3 {
			u, h, e := Take(s)
			if e != api.ErrFull || h != 0 || !same(u, s) || !slices.Equal(All(u), l) {
				t.Fatalf("Take of %v = %v, %#x, %d", s, u, h, e)
			}
			s = u
		}
		if many == 0 {
			continue
		}
		s = mustGive(t, s, l[many/2])
		s, h := mustTake(t, s)
		if h != of(many/2, 2) {
			t.Errorf("%#x behind a full arena", h)
		}
		if u, h, e := Take(s); e != api.ErrFull || h != 0 || !same(u, s) {
			t.Errorf("Take of a full arena again = %#x, %d", h, e)
		}
	}
	if u, h, e := Take(State{}); e != api.ErrFull || h != 0 || len(u.Gens)+len(u.Used)+len(u.Free) != 0 {
		t.Errorf("Take of nothing = %v, %#x, %d", u, h, e)
	}
}

// P3.2: what is given back last is taken next, ahead of those that were never taken.
func TestLastGivenIsTakenNext(t *testing.T) {
	s := mustNew(t, 6)
	var l []uint64
	for range 4 {
		var h uint64
		s, h = mustTake(t, s)
		l = append(l, h)
	}
	for _, i := range []int{2, 0, 3} {
		s = mustGive(t, s, l[i])
		if s.Free[len(s.Free)-1] != i || s.Gens[i] != 2 || s.Used[i] {
			t.Errorf("%d was given back: %v", i, s)
		}
	}
	if !slices.Equal(s.Free, []int{5, 4, 2, 0, 3}) || !slices.Equal(s.Gens, []uint64{2, 1, 2, 2, 1, 1}) || !slices.Equal(s.Used, []bool{false, true, false, false, false, false}) {
		t.Error(s)
	}
	for _, want := range []uint64{of(3, 2), of(0, 2), of(2, 2), of(4, 1), of(5, 1)} {
		var h uint64
		if s, h = mustTake(t, s); h != want {
			t.Errorf("%#x is taken, want %#x", h, want)
		}
	}
	if _, _, e := Take(s); e != api.ErrFull {
		t.Error(e)
	}
}

// P3.2: a slot that is taken over and over has one generation more each time, the others none.
func TestGenerationsGrow(t *testing.T) {
	s, l := taken(t, 3)
	h := l[1]
	for gen := uint64(1); gen < 300; gen++ {
		if h != of(1, gen) || !slices.Equal(All(s), []uint64{of(0, 1), of(1, gen), of(2, 1)}) {
			t.Fatalf("generation %d: %#x, %#x", gen, h, All(s))
		}
		s = mustGive(t, s, h)
		isStale(t, s, of(1, gen+1))
		s, h = mustTake(t, s)
	}
}

// P3.2, P3.3: handles of nothing that is taken.
func TestStaleHandles(t *testing.T) {
	s, l := taken(t, 4)
	s = mustGive(t, s, l[1])
	s, h := mustTake(t, s)
	s = mustGive(t, s, l[3])
	// Now 0 and 2 are taken of the generation 1, 1 of the generation 2; 3 is free, of the generation 2.
	if !slices.Equal(All(s), []uint64{of(0, 1), of(1, 2), of(2, 1)}) || h != of(1, 2) {
		t.Fatalf("%#x", All(s))
	}
	for _, h := range []uint64{
		0, 1, 2, 3, 4, // generation 0
		of(0, 2), of(0, 3), of(2, 2), of(1, 3), // later ones
		of(1, 1), of(1, 0), // older ones
		of(3, 1), of(3, 2), of(3, 3), of(3, 0), // a slot that is free
		of(4, 1), of(4, 2), of(5, 1), of(499, 1), of(500, 1), of(999, 1), of(lastIndex, 1), of(lastIndex, 0), // no slot
		of(0, 1<<39), of(0, 1<<40-1), of(0, 1+1<<32), of(1, 2+1<<32), of(2, 1+1<<39), of(1<<16, 1), of(1<<23, 1),
		math.MaxUint64, math.MaxUint64 - 1, 1 << 63, 1<<63 | of(0, 1),
	} {
		isStale(t, s, h)
	}
	for _, h := range All(s) {
		if !Live(s, h) {
			t.Errorf("%#x is not live", h)
		}
		if u, e := Give(s, h); e != api.OK || len(u.Free) != 2 {
			t.Errorf("Give of %#x = %v, %d", h, u, e)
		}
	}
}

// P3.2, P3.3: nothing is live in an arena of which nothing was taken, not even the handle that comes next.
func TestNothingIsLiveAtFirst(t *testing.T) {
	for _, many := range []int{0, 1, 2, 500} {
		s := mustNew(t, many)
		for i := range many + 2 {
			for gen := range uint64(3) {
				isStale(t, s, of(i, gen))
			}
		}
	}
	isStale(t, State{}, 0)
	isStale(t, State{}, of(0, 1))
}

// P3.3: at the last slot that there may be, and behind it.
func TestLastSlot(t *testing.T) {
	s, l := taken(t, 500)
	if !Live(s, of(499, 1)) || !Live(s, l[0]) {
		t.Error("the last slot, or the first one, is not live")
	}
	isStale(t, s, of(500, 1))
	s = mustGive(t, s, l[499])
	isStale(t, s, l[499])
	isStale(t, s, of(499, 2))
	if len(All(s)) != 499 {
		t.Error(len(All(s)))
	}
	if s, h := mustTake(t, s); h != of(499, 2) || len(All(s)) != 500 || !Live(s, h) {
		t.Errorf("%#x", h)
	}
}

// P3.3: by rising indices, whatever the order of taking; not by rising handles.
func TestAllByIndices(t *testing.T) {
	s, l := taken(t, 5)
	for _, i := range []int{1, 4, 0, 2} {
		s = mustGive(t, s, l[i])
	}
	if !slices.Equal(All(s), []uint64{of(3, 1)}) {
		t.Errorf("%#x", All(s))
	}
	for _, x := range []struct {
		h   uint64
		all []uint64
	}{
		{of(2, 2), []uint64{of(2, 2), of(3, 1)}},
		{of(0, 2), []uint64{of(0, 2), of(2, 2), of(3, 1)}},
		{of(4, 2), []uint64{of(0, 2), of(2, 2), of(3, 1), of(4, 2)}},
		{of(1, 2), []uint64{of(0, 2), of(1, 2), of(2, 2), of(3, 1), of(4, 2)}},
	} {
		var h uint64
		s, h = mustTake(t, s)
		if h != x.h || !slices.Equal(All(s), x.all) {
			t.Errorf("%#x, %#x, want %#x, %#x", h, All(s), x.h, x.all)
		}
	}
	if l := All(State{}); len(l) != 0 {
		t.Errorf("%#x", l)
	}
}

// P3.4
func TestNoHandleTwice(t *testing.T) {
	for _, many := range []int{1, 2, 3, 10, 40} {
		s := mustNew(t, many)
		told := map[uint64]bool{}
		var held, gone []uint64
		x := uint32(many)
		for range 600 {
			x = x*1664525 + 1013904223
			if len(held) == 0 || len(held) < many && x>>16%2 == 0 {
				var h uint64
				s, h = mustTake(t, s)
				if h == 0 || told[h] {
					t.Fatalf("%#x is told, of %d slots", h, many)
				}
				told[h] = true
				held = append(held, h)
				continue
			}
			i := int(x>>8) % len(held)
			s = mustGive(t, s, held[i])
			gone = append(gone, held[i])
			held = slices.Delete(held, i, i+1)
			for _, h := range gone {
				if Live(s, h) {
					t.Fatalf("%#x was given back, and is live", h)
				}
			}
			for _, h := range held {
				if !Live(s, h) {
					t.Fatalf("%#x was not given back, and is not live", h)
				}
			}
		}
		for _, h := range gone {
			isStale(t, s, h)
		}
	}
}

// P3.1 to P3.4: every run of a few calls, with every handle there may be, against the model.
func TestShortRuns(t *testing.T) {
	const most = 5
	var run func(s State, m *model, left int)
	run = func(s State, m *model, left int) {
		for i := range m.many + 1 {
			for gen := range uint64(most + 2) {
				if h := of(i, gen); Live(s, h) != m.live(h) {
					t.Fatalf("Live of %v, %#x = %v", s, h, !m.live(h))
				}
			}
		}
		if left == 0 {
			return
		}
		after := m.copy()
		run(step(t, s, after, true, 0), after, left-1)
		for i := range m.many + 1 {
			for gen := range uint64(4) {
				after := m.copy()
				run(step(t, s, after, false, of(i, gen)), after, left-1)
			}
		}
	}
	run(mustNew(t, 0), newModel(0), most)
	run(mustNew(t, 1), newModel(1), most)
	run(mustNew(t, 2), newModel(2), most-1)
	run(mustNew(t, 3), newModel(3), most-1)
}

// R4: states stay as they were, behind whatever comes of them, and lead to the same again.
func TestStatesStay(t *testing.T) {
	s := mustNew(t, 5)
	var states, copies []State
	keep := func(s State) State {
		states, copies = append(states, s), append(copies, kept(s))
		return s
	}
	keep(s)
	for i := range 40 {
		u, h, e := Take(s)
		v, k, f := Take(s)
		if h != k || e != f || !same(u, v) {
			t.Fatalf("Take of %v twice: %#x, %#x", s, h, k)
		}
		keep(u)
		for _, h := range append(All(u), 0, of(9, 9)) {
			a, e := Give(u, h)
			b, f := Give(u, h)
			if e != f || !same(a, b) {
				t.Fatalf("Give of %v, %#x twice: %v, %v", u, h, a, b)
			}
			keep(a)
		}
		s = u
		if l := All(u); i%3 != 0 && len(l) > 0 {
			s = keep(mustGive(t, u, l[i%len(l)]))
		}
	}
	for i := range states {
		if !same(states[i], copies[i]) {
			t.Fatalf("%v became %v", copies[i], states[i])
		}
	}
}

// R4: writing over what was answered changes nothing, also where the state is told as it was.
func TestAnswersAreNew(t *testing.T) {
	some, l := taken(t, 4)
	some = mustGive(t, some, l[2])
	full, _ := taken(t, 4)
	fresh := mustNew(t, 4)
	for _, s := range []State{some, full, fresh} {
		was, all := kept(s), All(s)
		u, _, _ := Take(s)
		scrawl(u)
		if !same(s, was) {
			t.Fatalf("what Take told reaches %v", was)
		}
		for _, h := range append(slices.Clone(all), 0, of(2, 1), of(4, 1)) {
			u, _ := Give(s, h)
			scrawl(u)
			if !same(s, was) {
				t.Fatalf("what Give of %#x told reaches %v", h, was)
			}
		}
		for i := range all {
			all[i] = 0
		}
		if !same(s, was) || len(all) > 0 && slices.Equal(All(s), all) {
			t.Fatalf("what All told reaches %v", was)
		}
	}
	scrawl(mustNew(t, 4))
	if s := mustNew(t, 4); !same(s, fresh) {
		t.Fatalf("what New told reaches the next one: %v", s)
	}
}

// R4: writing over what was handed in changes nothing of what was answered.
func TestArgumentsAreNotKept(t *testing.T) {
	for _, makes := range []func(s State) State{
		func(s State) State { u, _, _ := Take(s); return u },
		func(s State) State { u, _ := Give(s, of(0, 1)); return u },
		func(s State) State { u, _ := Give(s, of(0, 2)); return u },
	} {
		for n := range 5 {
			s := mustNew(t, 4)
			for range n {
				s, _ = mustTake(t, s)
			}
			u := makes(s)
			was := kept(u)
			scrawl(s)
			if !same(u, was) {
				t.Errorf("%v became %v, with %d taken", was, u, n)
			}
		}
	}
}

// FuzzSlots holds any run of calls against the model: each byte takes, gives back what is live, or tries a handle.
func FuzzSlots(f *testing.F) {
	f.Add(1, []byte{0, 1, 0})
	f.Add(3, []byte{0, 0, 0, 0, 5, 9, 0, 0, 2, 6})
	f.Add(0, []byte{0, 2})
	f.Add(500, []byte{0, 0, 255, 254, 1, 0})
	f.Add(-1, []byte{})
	f.Fuzz(func(t *testing.T, many int, calls []byte) {
		s, e := New(many)
		if e != api.OK {
			if e != api.ErrArg || 0 <= many && many <= 500 || len(s.Gens)+len(s.Used)+len(s.Free) != 0 {
				t.Fatalf("New(%d) = %v, %d", many, s, e)
			}
			return
		}
		m := newModel(many)
		told := map[uint64]bool{}
		for _, c := range calls {
			l := All(s)
			switch {
			case c%4 == 0:
				if _, h, e := Take(s); e == api.OK {
					if h == 0 || told[h] {
						t.Fatalf("%#x is told", h)
					}
					told[h] = true
				}
				s = step(t, s, m, true, 0)
			case c%4 == 1 && len(l) > 0:
				h := l[int(c/4)%len(l)]
				s = step(t, s, m, false, h)
				isStale(t, s, h)
			default:
				s = step(t, s, m, false, of(int(c/16), uint64(c%16/4)))
			}
		}
	})
}
