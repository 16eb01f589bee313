package vec

import (
	"math"
	"slices"
	"testing"

	"treillage/api"
	"treillage/slots"
)

// of is a handle as the document lays it out, made without the package that vec itself reads it by.
func of(index int, gen uint64) uint64 { return gen<<24 | uint64(index) }

// firsts are the handles of the slots from one index on, as they are taken the first time.
func firsts(from, many int) []uint64 {
	var l []uint64
	for i := range many {
		l = append(l, of(from+i, 1))
	}
	return l
}

// list is of n items that differ.
func list(n int) []uint64 {
	var l []uint64
	for i := range n {
		l = append(l, uint64(1000+i))
	}
	return l
}

// with is l with x at i.
func with(l []uint64, i int, x uint64) []uint64 {
	c := slices.Clone(l)
	c[i] = x
	return c
}

// kept is a copy that shares nothing with p.
func kept(p Pool) Pool {
	s := slots.State{Gens: slices.Clone(p.Slots.Gens), Used: slices.Clone(p.Slots.Used), Free: slices.Clone(p.Slots.Free)}
	return Pool{Slots: s, Chunks: slices.Clone(p.Chunks)}
}

func same(a, b Pool) bool {
	return slices.Equal(a.Slots.Gens, b.Slots.Gens) && slices.Equal(a.Slots.Used, b.Slots.Used) &&
		slices.Equal(a.Slots.Free, b.Slots.Free) && slices.Equal(a.Chunks, b.Chunks)
}

func isZero(p Pool) bool {
	return p.Slots.Gens == nil && p.Slots.Used == nil && p.Slots.Free == nil && p.Chunks == nil
}

// scrawlList writes over a list, also behind its end.
func scrawlList[T any](l []T, turn func(*T)) {
	l = l[:cap(l)]
	for i := range l {
		turn(&l[i])
	}
}

func scrawlNumbers(l []uint64) { scrawlList(l, func(x *uint64) { *x += 77 }) }

// scrawl writes over all of a pool that can be reached.
func scrawl(p Pool) {
	scrawlNumbers(p.Slots.Gens)
	scrawlList(p.Slots.Used, func(x *bool) { *x = !*x })
	scrawlList(p.Slots.Free, func(x *int) { *x += 99 })
	scrawlList(p.Chunks, func(x *Chunk) { *x = Chunk{N: x.N + 1, Items: [4]uint64{5, 6, 7, 8}} })
}

func mustNew(t *testing.T, many int) Pool {
	t.Helper()
	p, e := New(many)
	if e != api.OK {
		t.Fatalf("New(%d): error %d", many, e)
	}
	return p
}

func mustChange(t *testing.T, p Pool, v Vec, items []uint64) (Pool, Vec, []uint64) {
	t.Helper()
	q, w, gone, e := Change(p, v, items)
	if e != api.OK {
		t.Fatalf("Change of %v to %d items: error %d", v, len(items), e)
	}
	return q, w, gone
}

func mustFree(t *testing.T, p Pool, l []uint64) Pool {
	t.Helper()
	q, e := Free(p, l)
	if e != api.OK {
		t.Fatalf("Free of %#x: error %d", l, e)
	}
	return q
}

func mustReach(t *testing.T, p Pool, v Vec) []uint64 {
	t.Helper()
	l, e := Reach(p, v)
	if e != api.OK {
		t.Fatalf("Reach of %v: error %d", v, e)
	}
	return l
}

// made is a list in a pool of its own.
func made(t *testing.T, many int, items []uint64) (Pool, Vec) {
	t.Helper()
	p, v, _ := mustChange(t, mustNew(t, many), Vec{}, items)
	return p, v
}

// isList asks that v has these items, told whole and one by one.
func isList(t *testing.T, p Pool, v Vec, items []uint64) {
	t.Helper()
	if l, e := Items(p, v); e != api.OK || !slices.Equal(l, items) || v.Size != len(items) {
		t.Fatalf("Items of %v = %d, %d, want %d", v, l, e, items)
	}
	for i, x := range items {
		if y, e := Get(p, v, i); e != api.OK || y != x {
			t.Fatalf("Get of %v at %d = %d, %d, want %d", v, i, y, e, x)
		}
	}
}

// refused asks that an answer tells the error want, with pool and vec as they were.
func refused(t *testing.T, p Pool, v Vec, want api.Errno) func(Pool, Vec, []uint64, api.Errno) {
	was := kept(p)
	return func(q Pool, w Vec, gone []uint64, e api.Errno) {
		t.Helper()
		if e != want || w != v || len(gone) != 0 || !same(q, was) || !same(p, was) {
			t.Errorf("told %v, %#x, error %d, want %v, error %d, and the pool as it was", w, gone, e, v, want)
		}
	}
}

// isStale asks that every call that needs the whole list says that it can't be had.
func isStale(t *testing.T, p Pool, v Vec) {
	t.Helper()
	if l, e := Items(p, v); e != api.ErrStale || len(l) != 0 {
		t.Errorf("Items of %v = %d, %d", v, l, e)
	}
	if l, e := Reach(p, v); e != api.ErrStale || len(l) != 0 {
		t.Errorf("Reach of %v = %#x, %d", v, l, e)
	}
	stays := refused(t, p, v, api.ErrStale)
	stays(Change(p, v, nil))
	stays(Change(p, v, list(1)))
	stays(Change(p, v, list(200)))
	for _, i := range []int{0, v.Size - 1} {
		stays(Set(p, v, i, 3))
		stays(Remove(p, v, i))
		stays(Insert(p, v, i, 3))
	}
	stays(Insert(p, v, v.Size, 3))
}

// place is a chunk's level, from 1 on, and its number.
type place struct{ level, number int }

// told is a list by the document's words: its items, and of each chunk that is there its handle.
type told struct {
	items  []uint64
	chunks map[place]uint64
}

// wide is 4^level.
func wide(level int) int {
	n := 1
	for range level {
		n *= 4
	}
	return n
}

// places are those of all chunks of n items, in the order of Reach.
func places(n int) []place {
	if n == 0 {
		return nil
	}
	top := 1
	for wide(top) < n {
		top++
	}
	var l []place
	for level := 1; level <= top; level++ {
		for k := 0; k*wide(level) < n; k++ {
			l = append(l, place{level, k})
		}
	}
	return l
}

func rangeOf(items []uint64, at place) []uint64 {
	from := at.number * wide(at.level)
	return items[from:min(from+wide(at.level), len(items))]
}

func (l *told) vec() Vec {
	all := places(len(l.items))
	if len(all) == 0 {
		return Vec{}
	}
	return Vec{Root: l.chunks[all[len(all)-1]], Size: len(l.items)}
}

func (l *told) reach() []uint64 {
	var all []uint64
	for _, at := range places(len(l.items)) {
		all = append(all, l.chunks[at])
	}
	return all
}

// model is a pool by the document's words: of each slot how often it was given back, who is next, and who has what.
type model struct {
	given  []uint64
	next   []int // the one that is taken first stands first
	chunks map[uint64]Chunk
}

func newModel(many int) *model {
	m := &model{given: make([]uint64, many), chunks: map[uint64]Chunk{}}
	for i := range many {
		m.next = append(m.next, i)
	}
	return m
}

func (m *model) live(h uint64) bool {
	_, ok := m.chunks[h]
	return ok
}

func (m *model) pool() Pool {
	p := Pool{Chunks: make([]Chunk, len(m.given))}
	for i, n := range m.given {
		c, used := m.chunks[of(i, 1+n)]
		p.Chunks[i] = c
		p.Slots.Gens = append(p.Slots.Gens, 1+n)
		p.Slots.Used = append(p.Slots.Used, used)
	}
	p.Slots.Free = slices.Clone(m.next)
	slices.Reverse(p.Slots.Free)
	return p
}

// chunk is what the one at a place has.
func (l *told) chunk(at place) Chunk {
	var c Chunk
	put := func(x uint64) { c.Items[c.N], c.N = x, c.N+1 }
	if at.level == 1 {
		for _, x := range rangeOf(l.items, at) {
			put(x)
		}
		return c
	}
	for k := 4 * at.number; k < 4*at.number+4; k++ {
		if h, ok := l.chunks[place{at.level - 1, k}]; ok {
			put(h)
		}
	}
	return c
}

func (m *model) stale(l *told) bool {
	return slices.ContainsFunc(l.reach(), func(h uint64) bool { return !m.live(h) })
}

func (m *model) change(old *told, items []uint64) (*told, []uint64, api.Errno) {
	if len(items) > 200 {
		return old, nil, api.ErrArg
	}
	if m.stale(old) {
		return old, nil, api.ErrStale
	}
	l := &told{items: slices.Clone(items), chunks: map[place]uint64{}}
	var wanted []place
	for _, at := range places(len(items)) {
		h, ok := old.chunks[at]
		if ok && slices.Equal(rangeOf(old.items, at), rangeOf(items, at)) {
			l.chunks[at] = h
		} else {
			wanted = append(wanted, at)
		}
	}
	if len(wanted) > len(m.next) {
		return old, nil, api.ErrFull
	}
	for n, at := range wanted {
		i := m.next[n]
		l.chunks[at] = of(i, 1+m.given[i])
	}
	m.next = m.next[len(wanted):]
	for _, at := range wanted {
		m.chunks[l.chunks[at]] = l.chunk(at)
	}
	var gone []uint64
	for _, h := range old.reach() {
		if !slices.Contains(l.reach(), h) {
			gone = append(gone, h)
		}
	}
	return l, gone, api.OK
}

func (m *model) free(l []uint64) api.Errno {
	seen := map[uint64]bool{}
	for _, h := range l {
		if !m.live(h) || seen[h] {
			return api.ErrStale
		}
		seen[h] = true
	}
	for _, h := range l {
		delete(m.chunks, h)
		i := int(h & (1<<24 - 1))
		m.given[i]++
		m.next = append([]int{i}, m.next...)
	}
	return api.OK
}

// changed changes a list in the pool and in the model, and holds them against each other.
func changed(t *testing.T, p Pool, m *model, old *told, items []uint64) (Pool, *told, []uint64) {
	t.Helper()
	was, handed := kept(p), slices.Clone(items)
	q, v, gone, e := Change(p, old.vec(), items)
	l, wantGone, wantE := m.change(old, items)
	if e != wantE || v != l.vec() || !slices.Equal(gone, wantGone) {
		t.Fatalf("Change of %v (%d) to %d = %v, %#x, %d, want %v, %#x, %d", old.vec(), old.items, items, v, gone, e, l.vec(), wantGone, wantE)
	}
	if !same(q, m.pool()) {
		t.Fatalf("Change of %d to %d: the pool is %v, want %v", old.items, items, q, m.pool())
	}
	if !same(p, was) || !slices.Equal(items, handed) {
		t.Fatalf("Change of %d to %d changes what it was handed", old.items, handed)
	}
	return q, l, gone
}

func freed(t *testing.T, p Pool, m *model, l []uint64) Pool {
	t.Helper()
	was, handed := kept(p), slices.Clone(l)
	q, e := Free(p, l)
	if want := m.free(l); e != want || !same(q, m.pool()) {
		t.Fatalf("Free of %#x = %v, %d, want %v, %d", l, q, e, m.pool(), want)
	}
	if !same(p, was) || !slices.Equal(l, handed) {
		t.Fatalf("Free of %#x changes what it was handed", handed)
	}
	return q
}

// seen holds what is told of a list against the model.
func seen(t *testing.T, p Pool, m *model, l *told) {
	t.Helper()
	if m.stale(l) {
		isStale(t, p, l.vec())
		return
	}
	isList(t, p, l.vec(), l.items)
	if all := mustReach(t, p, l.vec()); !slices.Equal(all, l.reach()) {
		t.Fatalf("Reach of %v = %#x, want %#x", l.vec(), all, l.reach())
	}
}

// P4.1
func TestNew(t *testing.T) {
	for many := 0; many <= 500; many++ {
		p := mustNew(t, many)
		s, _ := slots.New(many)
		if !same(p, Pool{Slots: s, Chunks: make([]Chunk, many)}) {
			t.Fatalf("New(%d) = %v", many, p)
		}
		if l := slots.All(p.Slots); len(l) != 0 {
			t.Fatalf("New(%d): %#x are taken", many, l)
		}
	}
}

// P4.1, R3
func TestNewOfWrongNumbers(t *testing.T) {
	for _, many := range []int{-1, -2, -500, math.MinInt, math.MinInt32, 501, 502, 1000, math.MaxInt32, 1 << 32, math.MaxInt} {
		if p, e := New(many); e != api.ErrArg || !isZero(p) {
			t.Errorf("New(%d) = %v, %d", many, p, e)
		}
	}
}

// The document's example: two chunks of the level 1, one of the level 2.
func TestFiveItems(t *testing.T) {
	p, v, gone := mustChange(t, mustNew(t, 4), Vec{}, []uint64{10, 11, 12, 13, 14})
	want := []Chunk{
		{N: 4, Items: [4]uint64{10, 11, 12, 13}},
		{N: 1, Items: [4]uint64{14}},
		{N: 2, Items: [4]uint64{of(0, 1), of(1, 1)}},
		{},
	}
	if !slices.Equal(p.Chunks, want) || v != (Vec{Root: of(2, 1), Size: 5}) || len(gone) != 0 {
		t.Errorf("%v, %v, %#x", p.Chunks, v, gone)
	}
	if l := mustReach(t, p, v); !slices.Equal(l, firsts(0, 3)) || !slices.Equal(slots.All(p.Slots), l) {
		t.Errorf("%#x", l)
	}
	isList(t, p, v, []uint64{10, 11, 12, 13, 14})
}

// P4.2, P4.3: the empty list has no chunk, in any pool.
func TestEmptyList(t *testing.T) {
	for _, many := range []int{0, 1, 500} {
		p := mustNew(t, many)
		isList(t, p, Vec{}, nil)
		if l := mustReach(t, p, Vec{}); len(l) != 0 {
			t.Errorf("%#x", l)
		}
		for _, none := range [][]uint64{nil, {}} {
			q, v, gone, e := Change(p, Vec{}, none)
			if e != api.OK || v != (Vec{}) || len(gone) != 0 || !same(q, p) {
				t.Errorf("Change of nothing to nothing = %v, %#x, %d", v, gone, e)
			}
		}
	}
	p, v := made(t, 30, list(17))
	for _, none := range [][]uint64{nil, {}} {
		q, w, gone := mustChange(t, p, v, none)
		if w != (Vec{}) || !slices.Equal(gone, firsts(0, 8)) || !same(q, p) {
			t.Errorf("Change of 17 items to nothing = %v, %#x", w, gone)
		}
		isList(t, q, v, list(17))
	}
}

// P4.2, P4.3: how many chunks there are, and in which order they are taken, at the edges of the levels.
func TestShapes(t *testing.T) {
	for _, x := range []struct{ n, chunks int }{
		{1, 1}, {2, 1}, {3, 1}, {4, 1}, {5, 3}, {8, 3}, {9, 4}, {12, 4}, {13, 5}, {16, 5}, {17, 8}, {20, 8}, {21, 9},
		{32, 11}, {33, 13}, {63, 21}, {64, 21}, {65, 25}, {128, 43}, {129, 46}, {199, 68}, {200, 68},
	} {
		p, v := made(t, 80, list(x.n))
		if l := mustReach(t, p, v); !slices.Equal(l, firsts(0, x.chunks)) || v != (Vec{Root: of(x.chunks-1, 1), Size: x.n}) {
			t.Errorf("%d items: %v, %#x", x.n, v, l)
		}
		isList(t, p, v, list(x.n))
	}
	p, v := made(t, 9, list(17))
	want := []Chunk{
		{4, [4]uint64{1000, 1001, 1002, 1003}}, {4, [4]uint64{1004, 1005, 1006, 1007}},
		{4, [4]uint64{1008, 1009, 1010, 1011}}, {4, [4]uint64{1012, 1013, 1014, 1015}},
		{1, [4]uint64{1016}},
		{4, [4]uint64{of(0, 1), of(1, 1), of(2, 1), of(3, 1)}}, {1, [4]uint64{of(4, 1)}},
		{2, [4]uint64{of(5, 1), of(6, 1)}},
		{},
	}
	if !slices.Equal(p.Chunks, want) || v.Root != of(7, 1) {
		t.Errorf("%v, %v", p.Chunks, v)
	}
}

// P4.2: places that are none, of lists of all sizes.
func TestGetAtWrongPlaces(t *testing.T) {
	for _, n := range []int{0, 1, 4, 5, 16, 17, 200} {
		p, v := made(t, 80, list(n))
		for _, i := range []int{-1, -2, math.MinInt, n, n + 1, n + 4, 1 << 32, 1<<32 + 1, math.MaxInt} {
			if x, e := Get(p, v, i); e != api.ErrIndex || x != 0 {
				t.Errorf("Get of %d items at %d = %d, %d", n, i, x, e)
			}
		}
	}
}

// P4.2: any of a list's chunks that is freed makes it stale, but Get asks only of those on the way.
func TestStaleLists(t *testing.T) {
	for _, n := range []int{1, 4, 5, 16, 17, 70, 200} {
		p, v := made(t, 80, list(n))
		for number, at := range places(n) {
			h := mustReach(t, p, v)[number]
			gone := mustFree(t, p, []uint64{h})
			// The slot is another list's now: not its slot, but its handle must be asked for.
			again, w, _ := mustChange(t, gone, Vec{}, []uint64{7})
			if w.Root != of(number, 2) {
				t.Fatalf("%#x is taken behind %#x", w.Root, h)
			}
			for _, q := range []Pool{gone, again} {
				isStale(t, q, v)
				for i := range n {
					x, e := Get(q, v, i)
					if i/wide(at.level) == at.number && (e != api.ErrStale || x != 0) {
						t.Fatalf("Get of %d items at %d, without %v = %d, %d", n, i, at, x, e)
					}
					if i/wide(at.level) != at.number && (e != api.OK || x != uint64(1000+i)) {
						t.Fatalf("Get of %d items at %d, without %v = %d, %d", n, i, at, x, e)
					}
				}
				if _, e := Get(q, v, n); e != api.ErrIndex {
					t.Fatalf("Get of %d items at their end, without %v: %d", n, at, e)
				}
			}
			isList(t, again, w, []uint64{7})
			isList(t, p, v, list(n))
		}
	}
}

// P4.3: MaxItems, and one more; too many is said ahead of all else.
func TestTooManyItems(t *testing.T) {
	p, v := made(t, 200, list(200))
	isList(t, p, v, list(200))
	for _, n := range []int{201, 202, 250, 256, 1000} {
		refused(t, p, Vec{}, api.ErrArg)(Change(p, Vec{}, list(n)))
		refused(t, p, v, api.ErrArg)(Change(p, v, list(n)))
	}
	stale := mustFree(t, p, []uint64{v.Root})
	refused(t, stale, v, api.ErrArg)(Change(stale, v, list(201)))
	none := mustNew(t, 0)
	refused(t, none, Vec{}, api.ErrArg)(Change(none, Vec{}, list(201)))
	refused(t, none, Vec{}, api.ErrFull)(Change(none, Vec{}, list(200)))
}

// P4.3: a Change to the same items is that list, also where no slot is free.
func TestChangeToTheSame(t *testing.T) {
	for _, n := range []int{0, 1, 4, 5, 16, 17, 64, 65, 200} {
		for _, spare := range []int{0, 3} {
			p, v := made(t, len(places(n))+spare, list(n))
			q, w, gone := mustChange(t, p, v, list(n))
			if w != v || len(gone) != 0 || !same(q, p) {
				t.Errorf("Change of %d items to the same = %v, %#x", n, w, gone)
			}
		}
	}
}

// P4.3: level and number must be the same, too: a chunk of the same items elsewhere is not shared.
func TestSharedOnlyInPlace(t *testing.T) {
	p, v := made(t, 20, []uint64{1, 1, 1, 1, 2, 2, 2, 2})
	q, w, gone := mustChange(t, p, v, []uint64{2, 2, 2, 2, 1, 1, 1, 1})
	if !slices.Equal(mustReach(t, q, w), firsts(3, 3)) || !slices.Equal(gone, firsts(0, 3)) {
		t.Errorf("%#x, %#x", mustReach(t, q, w), gone)
	}
	// Of one list the chunks of the same items are two, and of another list none is shared.
	p, v = made(t, 20, []uint64{1, 1, 1, 1, 1, 1, 1, 1})
	if l := mustReach(t, p, v); !slices.Equal(l, firsts(0, 3)) {
		t.Errorf("%#x", l)
	}
	q, w, gone = mustChange(t, p, Vec{}, []uint64{1, 1, 1, 1, 1, 1, 1, 1})
	if !slices.Equal(mustReach(t, q, w), firsts(3, 3)) || len(gone) != 0 {
		t.Errorf("%#x, %#x", mustReach(t, q, w), gone)
	}
	// Items that look as the handles of chunks do are items all the same.
	p, v = made(t, 20, []uint64{of(1, 1), of(2, 1)})
	q, w, gone = mustChange(t, p, v, []uint64{of(1, 1), of(2, 1), 3, 4, 5})
	if !slices.Equal(mustReach(t, q, w), firsts(1, 3)) || !slices.Equal(gone, firsts(0, 1)) {
		t.Errorf("%#x, %#x", mustReach(t, q, w), gone)
	}
}

// P4.3: items that are 0 are items: a range that has one more of them is another one.
func TestItemsOfZero(t *testing.T) {
	zeros := make([]uint64, 200)
	for _, n := range []int{0, 1, 2, 3, 4, 5, 6, 15, 16, 17, 199, 200} {
		for _, k := range []int{0, 1, 2, 3, 4, 5, 6, 15, 16, 17, 199, 200} {
			m := newModel(150)
			p, l, _ := changed(t, mustNew(t, 150), m, &told{}, zeros[:n])
			seen(t, p, m, l)
			p, l, _ = changed(t, p, m, l, zeros[:k])
			seen(t, p, m, l)
		}
	}
}

// P4.3: what is shared, what is taken and in which order, and what is left, when one list becomes another.
func TestWhatIsShared(t *testing.T) {
	for _, x := range []struct {
		from, to    []uint64
		reach, gone []uint64
	}{
		// One item of the second chunk: that one, and the one above.
		{list(9), with(list(9), 5, 0), []uint64{of(0, 1), of(4, 1), of(2, 1), of(5, 1)}, []uint64{of(1, 1), of(3, 1)}},
		// One more level: the one chunk stays.
		{list(4), list(5), []uint64{of(0, 1), of(1, 1), of(2, 1)}, nil},
		{list(16), list(17), append(firsts(0, 4), of(5, 1), of(4, 1), of(6, 1), of(7, 1)), nil},
		// One level fewer.
		{list(5), list(4), firsts(0, 1), []uint64{of(1, 1), of(2, 1)}},
		{list(17), list(16), append(firsts(0, 4), of(5, 1)), []uint64{of(4, 1), of(6, 1), of(7, 1)}},
		// A range that is not whole is another one with one item more or fewer, and so is the one above.
		{list(5), list(6), []uint64{of(0, 1), of(3, 1), of(4, 1)}, []uint64{of(1, 1), of(2, 1)}},
		{list(3), list(4), []uint64{of(1, 1)}, firsts(0, 1)},
		{list(6), list(5), []uint64{of(0, 1), of(3, 1), of(4, 1)}, []uint64{of(1, 1), of(2, 1)}},
		// Two levels at once, down and up.
		{list(17), list(3), []uint64{of(8, 1)}, firsts(0, 8)},
		{list(17), list(4), firsts(0, 1), firsts(1, 7)},
		{list(4), list(17), append(firsts(0, 1), firsts(1, 7)...), nil},
		// Deep below, all that is above is taken anew, the lower levels first.
		{list(17), with(list(17), 16, 1), append(firsts(0, 4), of(8, 1), of(5, 1), of(9, 1), of(10, 1)), []uint64{of(4, 1), of(6, 1), of(7, 1)}},
		{list(17), with(list(17), 0, 1), append([]uint64{of(8, 1), of(1, 1), of(2, 1), of(3, 1), of(4, 1)}, of(9, 1), of(6, 1), of(10, 1)), []uint64{of(0, 1), of(5, 1), of(7, 1)}},
	} {
		p, v := made(t, 20, x.from)
		q, w, gone := mustChange(t, p, v, x.to)
		if l := mustReach(t, q, w); !slices.Equal(l, x.reach) || !slices.Equal(gone, x.gone) {
			t.Errorf("%d to %d: %#x, %#x, want %#x, %#x", x.from, x.to, l, gone, x.reach, x.gone)
		}
		for _, h := range gone {
			if !slots.Live(q.Slots, h) {
				t.Errorf("%d to %d: %#x is not live", x.from, x.to, h)
			}
		}
		isList(t, q, w, x.to)
		isList(t, q, v, x.from)
		isList(t, p, v, x.from)
	}
}

// P4.3: as many free slots as are wanted, and one fewer.
func TestFull(t *testing.T) {
	for n := 1; n <= 200; n++ {
		wanted := len(places(n))
		p, v := made(t, wanted, list(n))
		if len(p.Slots.Free) != 0 || v.Size != n {
			t.Fatalf("%d items: %v, %v", n, v, p.Slots)
		}
		q := mustNew(t, wanted-1)
		refused(t, q, Vec{}, api.ErrFull)(Change(q, Vec{}, list(n)))
	}
	// Behind a Change, what it leaves is not free yet.
	for _, free := range []int{0, 1, 2, 3} {
		p, v := made(t, 8+free, list(17))
		answer := func() (Pool, Vec, []uint64, api.Errno) { return Set(p, v, 9, 3) }
		if free < 3 {
			refused(t, p, v, api.ErrFull)(answer())
			refused(t, p, v, api.ErrFull)(Change(p, v, with(list(17), 9, 3)))
			isList(t, p, v, list(17))
			continue
		}
		if q, w, gone, e := answer(); e != api.OK || len(gone) != 3 || len(q.Slots.Free) != 0 || w.Size != 17 {
			t.Errorf("with %d free: %v, %#x, %d", free, w, gone, e)
		}
	}
	p, v := made(t, 1, list(4))
	refused(t, p, v, api.ErrFull)(Insert(p, v, 4, 5))
	refused(t, p, v, api.ErrFull)(Insert(p, v, 0, 5))
	refused(t, p, v, api.ErrFull)(Remove(p, v, 3))
	// To nothing no slot is wanted.
	p, v = made(t, 1, list(1))
	if q, w, gone, e := Remove(p, v, 0); e != api.OK || w != (Vec{}) || !slices.Equal(gone, firsts(0, 1)) || !same(q, p) {
		t.Errorf("%v, %#x, %d", w, gone, e)
	}
}

// P4.4: each is the Change that the document says, at every place.
func TestSetInsertRemove(t *testing.T) {
	type answer struct {
		p    Pool
		v    Vec
		gone []uint64
		e    api.Errno
	}
	alike := func(what string, i int, got, want answer) {
		t.Helper()
		if got.e != want.e || got.v != want.v || !slices.Equal(got.gone, want.gone) || !same(got.p, want.p) {
			t.Fatalf("%s at %d: %v, %#x, %d, want %v, %#x, %d", what, i, got.v, got.gone, got.e, want.v, want.gone, want.e)
		}
	}
	all := func(p Pool, v Vec, gone []uint64, e api.Errno) answer { return answer{p, v, gone, e} }
	for _, n := range []int{0, 1, 2, 4, 5, 15, 16, 17, 70} {
		items := list(n)
		p, v := made(t, 100, items)
		for i := range n + 1 {
			more := append(append(slices.Clone(items[:i]), 3), items[i:]...)
			alike("Insert", i, all(Insert(p, v, i, 3)), all(Change(p, v, more)))
			if i == n {
				continue
			}
			alike("Set", i, all(Set(p, v, i, 3)), all(Change(p, v, with(items, i, 3))))
			alike("Set of what is there", i, all(Set(p, v, i, items[i])), all(p, v, nil, api.OK))
			fewer := append(slices.Clone(items[:i]), items[i+1:]...)
			alike("Remove", i, all(Remove(p, v, i)), all(Change(p, v, fewer)))
		}
	}
}

// P4.4: what comes of them, told without Change.
func TestEdits(t *testing.T) {
	p, v := made(t, 30, []uint64{1, 2, 3, 4, 5})
	q, w, gone, e := Set(p, v, 4, 9)
	if e != api.OK || !slices.Equal(gone, []uint64{of(1, 1), of(2, 1)}) || w != (Vec{Root: of(4, 1), Size: 5}) {
		t.Errorf("%v, %#x, %d", w, gone, e)
	}
	isList(t, q, w, []uint64{1, 2, 3, 4, 9})
	q, w, gone, e = Insert(q, w, 5, 8)
	if e != api.OK || !slices.Equal(gone, []uint64{of(3, 1), of(4, 1)}) || w != (Vec{Root: of(6, 1), Size: 6}) {
		t.Errorf("%v, %#x, %d", w, gone, e)
	}
	isList(t, q, w, []uint64{1, 2, 3, 4, 9, 8})
	q, w, gone, e = Insert(q, w, 0, 7)
	if e != api.OK || !slices.Equal(gone, []uint64{of(0, 1), of(5, 1), of(6, 1)}) || w != (Vec{Root: of(9, 1), Size: 7}) {
		t.Errorf("%v, %#x, %d", w, gone, e)
	}
	isList(t, q, w, []uint64{7, 1, 2, 3, 4, 9, 8})
	q, w, gone, e = Remove(q, w, 2)
	if e != api.OK || !slices.Equal(gone, []uint64{of(7, 1), of(8, 1), of(9, 1)}) || w != (Vec{Root: of(12, 1), Size: 6}) {
		t.Errorf("%v, %#x, %d", w, gone, e)
	}
	isList(t, q, w, []uint64{7, 1, 3, 4, 9, 8})
	isList(t, q, v, []uint64{1, 2, 3, 4, 5})
	q, w, gone, e = Insert(q, Vec{}, 0, 6)
	if e != api.OK || len(gone) != 0 || w != (Vec{Root: of(13, 1), Size: 1}) {
		t.Errorf("%v, %#x, %d", w, gone, e)
	}
	isList(t, q, w, []uint64{6})
}

// P4.4: wrong places, of lists that are whole, stale, or full of items.
func TestEditsAtWrongPlaces(t *testing.T) {
	for _, n := range []int{0, 1, 4, 5, 17, 200} {
		p, v := made(t, 150, list(n))
		pools := []Pool{p}
		if n > 0 {
			pools = append(pools, mustFree(t, p, []uint64{v.Root}), mustFree(t, p, firsts(0, 1)))
		}
		for _, p := range pools {
			stays := refused(t, p, v, api.ErrIndex)
			for _, i := range []int{-1, -2, math.MinInt, n + 1, n + 5, 1 << 32, math.MaxInt} {
				stays(Insert(p, v, i, 3))
				stays(Set(p, v, i, 3))
				stays(Remove(p, v, i))
			}
			stays(Set(p, v, n, 3))
			stays(Remove(p, v, n))
		}
	}
}

// P4.4: beyond MaxItems there is no Insert; a stale list is said ahead of that.
func TestInsertIntoMaxItems(t *testing.T) {
	p, v := made(t, 200, list(199))
	p, v, _, e := Insert(p, v, 199, 1199)
	if e != api.OK {
		t.Fatal(e)
	}
	isList(t, p, v, list(200))
	stale := mustFree(t, p, []uint64{mustReach(t, p, v)[3]})
	for _, i := range []int{0, 100, 199, 200} {
		refused(t, p, v, api.ErrArg)(Insert(p, v, i, 3))
		refused(t, stale, v, api.ErrStale)(Insert(stale, v, i, 3))
	}
	refused(t, stale, v, api.ErrIndex)(Insert(stale, v, 201, 3))
	if q, w, _, e := Set(p, v, 199, 3); e != api.OK || w.Size != 200 {
		t.Error(q, w, e)
	}
	if _, w, _, e := Remove(p, v, 199); e != api.OK || w.Size != 199 {
		t.Error(w, e)
	}
}

// P4.5: what is given back is free in that order, of one generation more, and its chunk is empty.
func TestFree(t *testing.T) {
	p, v := made(t, 10, list(17))
	q := mustFree(t, p, []uint64{of(4, 1), of(0, 1), of(6, 1)})
	if !slices.Equal(q.Slots.Free, []int{9, 8, 4, 0, 6}) || !slices.Equal(q.Slots.Gens, []uint64{2, 1, 1, 1, 2, 1, 2, 1, 1, 1}) {
		t.Errorf("%v", q.Slots)
	}
	if !slices.Equal(slots.All(q.Slots), []uint64{of(1, 1), of(2, 1), of(3, 1), of(5, 1), of(7, 1)}) {
		t.Errorf("%#x", slots.All(q.Slots))
	}
	for i, c := range q.Chunks {
		want := p.Chunks[i]
		if i == 0 || i == 4 || i == 6 {
			want = Chunk{}
		}
		if c != want {
			t.Errorf("the chunk %d is %v, want %v", i, c, want)
		}
	}
	isList(t, p, v, list(17))
	for _, none := range [][]uint64{nil, {}} {
		if r := mustFree(t, p, none); !same(r, p) {
			t.Errorf("Free of nothing: %v", r)
		}
	}
	// All of it, and the pool is as good as new, but for the generations.
	q = mustFree(t, p, mustReach(t, p, v))
	if len(slots.All(q.Slots)) != 0 || !slices.Equal(q.Chunks, make([]Chunk, 10)) {
		t.Errorf("%v", q)
	}
	q, w, _ := mustChange(t, q, Vec{}, list(5))
	if !slices.Equal(mustReach(t, q, w), []uint64{of(7, 2), of(6, 2), of(5, 2)}) {
		t.Errorf("%#x", mustReach(t, q, w))
	}
}

// P4.5: one that is not live, wherever it stands, and nothing is freed.
func TestFreeOfStaleHandles(t *testing.T) {
	p, v := made(t, 10, list(17))
	p = mustFree(t, p, []uint64{of(2, 1)})
	p, _, _ = mustChange(t, p, Vec{}, list(1))
	p = mustFree(t, p, []uint64{of(7, 1)})
	// Now 2 is live of the generation 2, and 7, 8 and 9 are free.
	was := kept(p)
	for _, h := range []uint64{0, 1, of(0, 0), of(0, 2), of(2, 1), of(2, 3), of(7, 1), of(7, 2), of(8, 1), of(9, 1), of(10, 1), of(500, 1), of(1<<24-1, 1), 1 << 63, math.MaxUint64, v.Root} {
		for _, l := range [][]uint64{{h}, {h, of(0, 1)}, {of(0, 1), h}, {of(0, 1), of(2, 2), h, of(1, 1)}, {h, h}} {
			handed := slices.Clone(l)
			if q, e := Free(p, l); e != api.ErrStale || !same(q, was) || !same(p, was) || !slices.Equal(l, handed) {
				t.Errorf("Free of %#x = %v, %d", l, q, e)
			}
		}
	}
	for _, l := range [][]uint64{{of(0, 1), of(0, 1)}, {of(0, 1), of(1, 1), of(0, 1)}, {of(2, 2), of(2, 2)}, {of(0, 1), of(0, 2)}, {of(2, 2), of(2, 3)}} {
		if q, e := Free(p, l); e != api.ErrStale || !same(q, was) || !same(p, was) {
			t.Errorf("Free of %#x = %v, %d", l, q, e)
		}
	}
	none := mustNew(t, 0)
	if q, e := Free(none, []uint64{of(0, 1)}); e != api.ErrStale || !same(q, none) {
		t.Errorf("Free in an empty pool = %v, %d", q, e)
	}
}

// P4.3 to P4.5: every short list of two items becomes every other one, as the model says.
func TestShortLists(t *testing.T) {
	var all [][]uint64
	for n := range 7 {
		for bits := range 1 << n {
			var l []uint64
			for i := range n {
				l = append(l, uint64(bits>>i&1))
			}
			all = append(all, l)
		}
	}
	for _, many := range []int{3, 4, 5, 7} {
		for _, from := range all {
			for _, to := range all {
				m := newModel(many)
				p, l, _ := changed(t, mustNew(t, many), m, &told{}, from)
				p, k, gone := changed(t, p, m, l, to)
				seen(t, p, m, l)
				seen(t, p, m, k)
				p = freed(t, p, m, gone)
				seen(t, p, m, l)
				seen(t, p, m, k)
			}
		}
	}
}

// P4.3: from every size to every other one, at the edges of the chunks, with the same items as far as they go, or one other.
func TestSizes(t *testing.T) {
	sizes := []int{0, 1, 3, 4, 5, 8, 15, 16, 17, 31, 32, 33, 47, 48, 63, 64, 65, 128, 191, 193, 199, 200}
	for _, from := range sizes {
		for _, to := range sizes {
			for _, other := range []int{-1, 0, 3, 4, 16, 63, 64, to - 1} {
				if other >= to {
					continue
				}
				m := newModel(140)
				p, l, _ := changed(t, mustNew(t, 140), m, &told{}, list(from))
				items := list(to)
				if other >= 0 {
					items[other] = 5
				}
				p, k, gone := changed(t, p, m, l, items)
				p = freed(t, p, m, gone)
				if all := slices.Sorted(slices.Values(mustReach(t, p, k.vec()))); !slices.Equal(all, slots.All(p.Slots)) {
					t.Fatalf("%d to %d: %#x are live, and %#x are reached", from, to, slots.All(p.Slots), all)
				}
				seen(t, p, m, k)
			}
		}
	}
}

// dice is a run of numbers that is always the same.
type dice uint32

func (d *dice) roll(n int) int {
	*d = *d*1664525 + 1013904223
	return int(*d>>8) % n
}

// edited is what one of the calls makes of items, chosen by a number.
func edited(items []uint64, which, i int, x uint64) []uint64 {
	n := len(items)
	switch {
	case which == 0 && n > 0:
		return with(items, i%n, x)
	case which == 1 && n > 0:
		return slices.Delete(slices.Clone(items), i%n, i%n+1)
	case which == 2:
		return slices.Clone(items[:i%(n+1)])
	}
	return slices.Insert(slices.Clone(items), i%(n+1), x)
}

// P4.6: a list that was told stays as it was, whatever comes of it, while nothing is freed.
func TestListsStay(t *testing.T) {
	p, m := mustNew(t, 500), newModel(500)
	lists := []*told{{}}
	d := dice(1)
	for len(lists) < 120 {
		// Not only the last one goes on: lists branch.
		from := lists[d.roll(len(lists))]
		var l *told
		p, l, _ = changed(t, p, m, from, edited(from.items, d.roll(5), d.roll(200), uint64(d.roll(3))))
		lists = append(lists, l)
	}
	for _, l := range lists {
		seen(t, p, m, l)
	}
	// Behind a Free just those lists are gone that have one of the chunks.
	h := slots.All(p.Slots)[40]
	p = freed(t, p, m, []uint64{h})
	for _, l := range lists {
		if m.stale(l) != slices.Contains(l.reach(), h) {
			t.Fatal("the model is wrong")
		}
		seen(t, p, m, l)
	}
}

// P4.6: if what each Change tells is freed, just those chunks are live that the last list has.
func TestNothingIsLost(t *testing.T) {
	for seed := range 20 {
		d := dice(seed)
		many := 140 - 3*seed
		p, v, items := mustNew(t, many), Vec{}, []uint64(nil)
		for range 150 {
			next := edited(items, d.roll(6), d.roll(200), uint64(d.roll(3)))
			if d.roll(10) == 0 {
				next = list(d.roll(201))
			}
			q, w, gone, e := Change(p, v, next)
			if e == api.ErrFull || e == api.ErrArg {
				refused(t, p, v, e)(q, w, gone, e)
				continue
			}
			if e != api.OK {
				t.Fatal(e)
			}
			// The other list is gone only with its own chunks: what it shares stays.
			p, v, items = mustFree(t, q, gone), w, next
			isList(t, p, v, items)
			if l := slices.Sorted(slices.Values(mustReach(t, p, v))); len(l) != len(slots.All(p.Slots)) {
				t.Fatalf("%#x are live, %#x are reached", slots.All(p.Slots), l)
			}
			for _, h := range mustReach(t, p, v) {
				if !slots.Live(p.Slots, h) {
					t.Fatalf("%#x is not live", h)
				}
			}
			for i, c := range p.Chunks {
				if !p.Slots.Used[i] && c != (Chunk{}) {
					t.Fatalf("%d is free, and has %v", i, c)
				}
			}
		}
	}
}

// P4.2 to P4.6: long runs of changes and frees, of lists new and old, against the model.
func TestRuns(t *testing.T) {
	for seed := range 40 {
		d := dice(seed)
		many := []int{0, 1, 2, 3, 5, 9, 30, 100}[seed%8]
		p, m := mustNew(t, many), newModel(many)
		lists := []*told{{}}
		for range 120 {
			from := lists[d.roll(len(lists))]
			switch d.roll(6) {
			case 0:
				var l []uint64
				for range d.roll(3) {
					l = append(l, of(d.roll(many+1), uint64(d.roll(4))))
				}
				p = freed(t, p, m, l)
			case 1:
				p = freed(t, p, m, slots.All(p.Slots))
			default:
				var l *told
				var gone []uint64
				p, l, gone = changed(t, p, m, from, edited(from.items, d.roll(5), d.roll(200), uint64(d.roll(3))))
				lists = append(lists, l)
				if d.roll(2) == 0 {
					p = freed(t, p, m, gone)
				}
			}
			seen(t, p, m, lists[d.roll(len(lists))])
		}
		for _, l := range lists {
			seen(t, p, m, l)
		}
	}
}

// asked is every call of one pool and vec, with what it tells written over.
func asked(p Pool, v Vec, items, handles []uint64) {
	over := func(q Pool, _ Vec, gone []uint64, _ api.Errno) {
		scrawlNumbers(gone)
		scrawl(q)
	}
	over(Change(p, v, items))
	over(Change(p, v, nil))
	over(Change(p, v, make([]uint64, 201)))
	for _, i := range []int{-1, 0, v.Size - 1, v.Size, v.Size + 1} {
		over(Set(p, v, i, 3))
		over(Insert(p, v, i, 3))
		over(Remove(p, v, i))
	}
	for _, l := range [][]uint64{nil, handles, {0}, {v.Root}} {
		q, _ := Free(p, l)
		scrawl(q)
	}
	l, _ := Items(p, v)
	scrawlNumbers(l)
	l, _ = Reach(p, v)
	scrawlNumbers(l)
}

// R4: writing over what was answered changes nothing, also where the pool is told as it was.
func TestAnswersAreNew(t *testing.T) {
	for _, n := range []int{0, 1, 4, 5, 17} {
		for _, spare := range []int{0, 1, 30} {
			p, v := made(t, len(places(n))+spare, list(n))
			pools := []Pool{p}
			if n > 0 {
				pools = append(pools, mustFree(t, p, []uint64{v.Root}))
			}
			for _, p := range pools {
				was := kept(p)
				for _, items := range [][]uint64{list(n), list(n + 1), with(list(n+1), 0, 7)} {
					handed, handles := slices.Clone(items), slots.All(p.Slots)
					asked(p, v, items, handles)
					if !same(p, was) || !slices.Equal(items, handed) || !slices.Equal(handles, slots.All(p.Slots)) {
						t.Fatalf("%d items, %d spare: what was told reaches what was handed in", n, spare)
					}
				}
			}
			if v.Size == 0 {
				continue
			}
			isList(t, p, v, list(n))
		}
	}
	scrawl(mustNew(t, 4))
	if s, _ := slots.New(4); !same(mustNew(t, 4), Pool{Slots: s, Chunks: make([]Chunk, 4)}) {
		t.Error("what New told reaches the next one")
	}
}

// R4: writing over what was handed in changes nothing of what was answered.
func TestArgumentsAreNotKept(t *testing.T) {
	for _, n := range []int{1, 4, 5, 17} {
		for _, answer := range []func(p Pool, v Vec, items []uint64) (Pool, Vec, []uint64, api.Errno){
			Change,
			func(p Pool, v Vec, items []uint64) (Pool, Vec, []uint64, api.Errno) { return Change(p, v, items[:n]) },
			func(p Pool, v Vec, _ []uint64) (Pool, Vec, []uint64, api.Errno) { return Change(p, v, nil) },
			func(p Pool, v Vec, _ []uint64) (Pool, Vec, []uint64, api.Errno) {
				return Change(p, v, make([]uint64, 201))
			},
			func(p Pool, v Vec, _ []uint64) (Pool, Vec, []uint64, api.Errno) { return Set(p, v, 0, 3) },
			func(p Pool, v Vec, _ []uint64) (Pool, Vec, []uint64, api.Errno) { return Set(p, v, -1, 3) },
			func(p Pool, v Vec, _ []uint64) (Pool, Vec, []uint64, api.Errno) {
				q, e := Free(p, []uint64{v.Root})
				return q, v, nil, e
			},
			func(p Pool, v Vec, _ []uint64) (Pool, Vec, []uint64, api.Errno) {
				q, e := Free(p, nil)
				return q, v, nil, e
			},
			func(p Pool, v Vec, _ []uint64) (Pool, Vec, []uint64, api.Errno) {
				q, e := Free(p, []uint64{0})
				return q, v, nil, e
			},
			func(p Pool, v Vec, _ []uint64) (Pool, Vec, []uint64, api.Errno) {
				l, e := Items(p, v)
				return Pool{}, v, l, e
			},
			func(p Pool, v Vec, _ []uint64) (Pool, Vec, []uint64, api.Errno) {
				l, e := Reach(p, v)
				return Pool{}, v, l, e
			},
		} {
			for _, spare := range []int{0, 30} {
				p, v := made(t, len(places(n))+spare, list(n))
				items := list(n + 1)
				q, _, l, _ := answer(p, v, items)
				was, told := kept(q), slices.Clone(l)
				scrawl(p)
				scrawlNumbers(items)
				if !same(q, was) || !slices.Equal(l, told) {
					t.Errorf("%d items, %d spare: what was handed in reaches what was told", n, spare)
				}
			}
		}
	}
}

// FuzzVec holds any run of changes and frees against the model.
func FuzzVec(f *testing.F) {
	f.Add(4, []byte{0, 0, 0, 0, 0, 0})
	f.Add(9, []byte{3, 1, 7, 3, 2, 8, 3, 3, 9, 4, 1, 1, 5, 0, 0, 6, 1, 1})
	f.Add(500, []byte{7, 200, 1, 0, 17, 2, 5, 0, 0, 7, 16, 1})
	f.Add(0, []byte{3, 0, 0})
	f.Fuzz(func(t *testing.T, many int, calls []byte) {
		if many < 0 || many > 500 || len(calls) > 150 {
			return
		}
		p, m := mustNew(t, many), newModel(many)
		lists := []*told{{}}
		var gone []uint64
		for ; len(calls) >= 3; calls = calls[3:] {
			which, i, x := int(calls[0]%8), int(calls[1]), uint64(calls[2]%4)
			last := lists[len(lists)-1]
			switch which {
			case 5:
				p = freed(t, p, m, gone)
				gone = nil
			case 6:
				p = freed(t, p, m, []uint64{of(i, 1+x)})
			default:
				items := edited(last.items, which, i, x)
				if which == 7 {
					items = list(i)
				}
				if which == 4 {
					last = lists[i%len(lists)]
				}
				var l *told
				p, l, gone = changed(t, p, m, last, items)
				lists = append(lists, l)
			}
		}
		for _, l := range lists {
			seen(t, p, m, l)
		}
	})
}
