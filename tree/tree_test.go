package tree

import (
	"fmt"
	"math"
	"slices"
	"strings"
	"testing"

	"treillage/api"
	"treillage/apply"
	"treillage/forest"
	"treillage/op"
	"treillage/rec"
	"treillage/slots"
	"treillage/vec"
)

func element(name string) op.Op { return op.Op{Kind: op.NewElement, Name: name} }

func text(s string) op.Op { return op.Op{Kind: op.NewText, Text: s} }

func comment(s string) op.Op { return op.Op{Kind: op.NewComment, Text: s} }

func insert(id, to, at int) op.Op { return op.Op{Kind: op.Insert, Id: id, To: to, At: at} }

func remove(id int) op.Op { return op.Op{Kind: op.Remove, Id: id} }

func set(id int, name, s string) op.Op {
	return op.Op{Kind: op.SetAttr, Id: id, Name: name, Text: s}
}

func unset(id int, name string) op.Op { return op.Op{Kind: op.DelAttr, Id: id, Name: name} }

func renew(id int, s string) op.Op { return op.Op{Kind: op.SetText, Id: id, Text: s} }

// of is a handle as the document lays it out, made without the package that tree itself reads it by.
func of(index int, gen uint64) uint64 { return gen<<24 | uint64(index) }

// firsts are the handles of these slots, as they are taken the first time.
func firsts(indices ...int) []uint64 {
	var l []uint64
	for _, i := range indices {
		l = append(l, of(i, 1))
	}
	return l
}

func told(x any) string { return fmt.Sprintf("%#v", x) }

func keptSlots(s slots.State) slots.State {
	return slots.State{Gens: slices.Clone(s.Gens), Used: slices.Clone(s.Used), Free: slices.Clone(s.Free)}
}

// kept is a copy that shares nothing with t.
func kept(t Tree) Tree {
	c := Tree{Slots: keptSlots(t.Slots), Pool: vec.Pool{Slots: keptSlots(t.Pool.Slots), Chunks: slices.Clone(t.Pool.Chunks)}}
	for _, r := range t.Recs {
		r.Attrs = slices.Clone(r.Attrs)
		c.Recs = append(c.Recs, r)
	}
	return c
}

func sameSlots(a, b slots.State) bool {
	return slices.Equal(a.Gens, b.Gens) && slices.Equal(a.Used, b.Used) && slices.Equal(a.Free, b.Free)
}

func sameRec(a, b rec.Rec) bool {
	return a.Kind == b.Kind && a.Parent == b.Parent && a.Name == b.Name && a.Text == b.Text && a.Kids == b.Kids && slices.Equal(a.Attrs, b.Attrs)
}

func same(a, b Tree) bool {
	return sameSlots(a.Slots, b.Slots) && slices.EqualFunc(a.Recs, b.Recs, sameRec) &&
		sameSlots(a.Pool.Slots, b.Pool.Slots) && slices.Equal(a.Pool.Chunks, b.Pool.Chunks)
}

func sameGone(a, b Gone) bool {
	return slices.Equal(a.Recs, b.Recs) && slices.Equal(a.Chunks, b.Chunks)
}

func isNone(g Gone) bool { return len(g.Recs)+len(g.Chunks) == 0 }

func sameNode(a, b forest.Node) bool { return forest.Same(forest.Forest{a}, forest.Forest{b}) }

// arena is slots by the document's words: of each how often it was given back, who is next, and which handles are taken.
type arena struct {
	given []uint64
	next  []int // the one that is taken first stands first
	taken map[uint64]bool
}

func newArena(many int) *arena {
	a := &arena{given: make([]uint64, many), taken: map[uint64]bool{}}
	for i := range many {
		a.next = append(a.next, i)
	}
	return a
}

func (a *arena) kept() *arena {
	c := newArena(0)
	c.given, c.next = slices.Clone(a.given), slices.Clone(a.next)
	for h := range a.taken {
		c.taken[h] = true
	}
	return c
}

func (a *arena) take() (uint64, bool) {
	if len(a.next) == 0 {
		return 0, false
	}
	i := a.next[0]
	a.next = a.next[1:]
	h := of(i, 1+a.given[i])
	a.taken[h] = true
	return h, true
}

func (a *arena) give(h uint64) bool {
	if !a.taken[h] {
		return false
	}
	delete(a.taken, h)
	i := int(h & (1<<24 - 1))
	a.given[i]++
	a.next = append([]int{i}, a.next...)
	return true
}

func (a *arena) state() slots.State {
	var s slots.State
	for i, n := range a.given {
		s.Gens = append(s.Gens, 1+n)
		s.Used = append(s.Used, a.taken[of(i, 1+n)])
	}
	s.Free = slices.Clone(a.next)
	slices.Reverse(s.Free)
	return s
}

// place is a chunk's level, from 1 on, and its number.
type place struct{ level, number int }

// list is a list by the document's words: its items, and of each chunk that is there its handle.
type list struct {
	items  []uint64
	chunks map[place]uint64
}

// wide is 4^level.
func wide(level int) int {
	n := 1
	for range level {
		n *= 4
	}
	return n
}

// places are those of all chunks of n items, in the order of Reach.
func places(n int) []place {
	var l []place
	for level := 1; n > 0; level++ {
		for k := 0; k*wide(level) < n; k++ {
			l = append(l, place{level, k})
		}
		if wide(level) >= n {
			break
		}
	}
	return l
}

func rangeOf(items []uint64, at place) []uint64 {
	from := at.number * wide(at.level)
	return items[from:min(from+wide(at.level), len(items))]
}

func (l list) vec() vec.Vec {
	if len(l.items) == 0 {
		return vec.Vec{}
	}
	all := l.reach()
	return vec.Vec{Root: all[len(all)-1], Size: len(l.items)}
}

func (l list) reach() []uint64 {
	var all []uint64
	for _, at := range places(len(l.items)) {
		all = append(all, l.chunks[at])
	}
	return all
}

// chunk is what the one at a place has.
func (l list) chunk(at place) vec.Chunk {
	var c vec.Chunk
	put := func(x uint64) { c.Items[c.N], c.N = x, c.N+1 }
	if at.level == 1 {
		for _, x := range rangeOf(l.items, at) {
			put(x)
		}
		return c
	}
	for k := 4 * at.number; k < 4*at.number+4; k++ {
		if h, ok := l.chunks[place{at.level - 1, k}]; ok {
			put(h)
		}
	}
	return c
}

// record is a node, and its Kids.
type record struct {
	node forest.Node
	kids list
}

// model is a tree by the document's words; of each handle that ever was told it knows what it stands for.
type model struct {
	recs, chunks *arena
	record       map[uint64]record
	chunk        map[uint64]vec.Chunk
}

// newModel is a tree of a document alone, and the list of its Index.
func newModel(recs, chunks int) (*model, list) {
	m := &model{recs: newArena(recs), chunks: newArena(chunks), record: map[uint64]record{}, chunk: map[uint64]vec.Chunk{}}
	r, _ := m.recs.take()
	m.record[r] = record{node: forest.Node{Parent: -1}}
	index, _, _ := m.change(list{}, []uint64{r})
	return m, index
}

func (m *model) tree() Tree {
	t := Tree{Slots: m.recs.state(), Recs: make([]rec.Rec, len(m.recs.given)), Pool: vec.Pool{Slots: m.chunks.state(), Chunks: make([]vec.Chunk, len(m.chunks.given))}}
	for h := range m.recs.taken {
		n := m.record[h].node
		r := rec.Rec{Kind: n.Kind, Parent: n.Parent, Name: n.Name, Text: n.Text, Kids: m.record[h].kids.vec()}
		for _, a := range n.Attrs {
			r.Attrs = append(r.Attrs, a.Name, a.Value)
		}
		t.Recs[h&(1<<24-1)] = r
	}
	for h := range m.chunks.taken {
		t.Pool.Chunks[h&(1<<24-1)] = m.chunk[h]
	}
	return t
}

// change is what the chapter of lists says; false, if there is no room.
func (m *model) change(old list, items []uint64) (list, []uint64, bool) {
	l := list{items: slices.Clone(items), chunks: map[place]uint64{}}
	for _, at := range places(len(items)) {
		if h, ok := old.chunks[at]; ok && slices.Equal(rangeOf(old.items, at), rangeOf(items, at)) {
			l.chunks[at] = h
			continue
		}
		h, ok := m.chunks.take()
		if !ok {
			return list{}, nil, false
		}
		l.chunks[at] = h
		m.chunk[h] = l.chunk(at)
	}
	var gone []uint64
	for _, h := range old.reach() {
		if !slices.Contains(l.reach(), h) {
			gone = append(gone, h)
		}
	}
	return l, gone, true
}

// had says whether what is asked of one node can be had: the chunks on the way to it, its record, its Kids.
func (m *model) had(index list, id int) bool {
	for at, h := range index.chunks {
		if id/wide(at.level) == at.number && !m.chunks.taken[h] {
			return false
		}
	}
	h := index.items[id]
	return m.recs.taken[h] && !slices.ContainsFunc(m.record[h].kids.reach(), func(h uint64) bool { return !m.chunks.taken[h] })
}

// read is the forest that stands in an index, and whether it can be had.
func (m *model) read(index list) (forest.Forest, bool) {
	var f forest.Forest
	for id, h := range index.items {
		if !m.had(index, id) {
			return nil, false
		}
		f = append(f, m.record[h].node)
	}
	return f, true
}

func (m *model) reach(index list) Gone {
	g := Gone{Recs: index.items, Chunks: index.reach()}
	for _, h := range index.items {
		g.Chunks = append(g.Chunks, m.record[h].kids.reach()...)
	}
	return g
}

// apply is what P12.3 says.
func (m *model) apply(index list, l []op.Op) (list, Gone, int, api.Errno) {
	was, ok := m.read(index)
	if !ok {
		return index, Gone{}, 0, api.ErrStale
	}
	is, n, e := apply.All(was, l)
	if e != api.OK {
		return index, Gone{}, n, e
	}
	recs, chunks := m.recs.kept(), m.chunks.kept()
	next, gone, ok := m.grow(index, was, is)
	if !ok {
		m.recs, m.chunks = recs, chunks
		return index, Gone{}, len(l), api.ErrFull
	}
	return next, gone, len(l), api.OK
}

func (m *model) grow(index list, was, is forest.Forest) (list, Gone, bool) {
	var gone Gone
	var handles []uint64
	for id, n := range is {
		var kids list
		if id < len(was) {
			h := index.items[id]
			if sameNode(n, was[id]) {
				handles = append(handles, h)
				continue
			}
			kids = m.record[h].kids
			gone.Recs = append(gone.Recs, h)
		}
		var items []uint64
		for _, kid := range n.Kids {
			items = append(items, uint64(kid))
		}
		kids, left, ok := m.change(kids, items)
		h, ok2 := m.recs.take()
		if !ok || !ok2 {
			return list{}, Gone{}, false
		}
		gone.Chunks = append(gone.Chunks, left...)
		m.record[h] = record{node: n, kids: kids}
		handles = append(handles, h)
	}
	next, left, ok := m.change(index, handles)
	gone.Chunks = append(gone.Chunks, left...)
	return next, gone, ok
}

func (m *model) free(g Gone) api.Errno {
	recs, chunks := m.recs.kept(), m.chunks.kept()
	for _, h := range g.Recs {
		if !m.recs.give(h) {
			m.recs = recs
			return api.ErrStale
		}
	}
	for _, h := range g.Chunks {
		if !m.chunks.give(h) {
			m.recs, m.chunks = recs, chunks
			return api.ErrStale
		}
	}
	return api.OK
}

func versionOf(index list) Version { return Version{Index: index.vec()} }

func mustNew(t *testing.T, recs, chunks int) (Tree, Version) {
	t.Helper()
	x, v, e := New(recs, chunks)
	if e != api.OK {
		t.Fatalf("New(%d, %d): error %d", recs, chunks, e)
	}
	return x, v
}

func mustApply(t *testing.T, x Tree, v Version, l ...op.Op) (Tree, Version, Gone) {
	t.Helper()
	y, w, gone, n, e := Apply(x, v, l)
	if e != api.OK || n != len(l) {
		t.Fatalf("Apply of %s: %d, error %d", told(l), n, e)
	}
	return y, w, gone
}

func mustFree(t *testing.T, x Tree, g Gone) Tree {
	t.Helper()
	y, e := Free(x, g)
	if e != api.OK {
		t.Fatalf("Free of %s: error %d", told(g), e)
	}
	return y
}

// printed is what a version's document prints.
func printed(t *testing.T, x Tree, v Version) string {
	t.Helper()
	f, e := Read(x, v)
	if e != api.OK {
		t.Fatalf("Read of %v: error %d", v, e)
	}
	return forest.Print(f, 0)
}

// isLive asks how many records and chunks are taken.
func isLive(t *testing.T, x Tree, recs, chunks int) {
	t.Helper()
	if a, b := Live(x); a != recs || b != chunks {
		t.Errorf("Live: %d, %d, want %d, %d", a, b, recs, chunks)
	}
}

// applied applies in the tree and in the model, and holds them against each other.
func applied(t *testing.T, x Tree, m *model, index list, l []op.Op) (Tree, list, Gone, api.Errno) {
	t.Helper()
	was, handed, v := kept(x), slices.Clone(l), versionOf(index)
	y, w, gone, n, e := Apply(x, v, l)
	next, wantGone, wantN, wantE := m.apply(index, l)
	if e != wantE || n != wantN || w != versionOf(next) || !sameGone(gone, wantGone) {
		t.Fatalf("Apply of %s to %v = %v, %s, %d, error %d, want %v, %s, %d, error %d", told(l), v, w, told(gone), n, e, versionOf(next), told(wantGone), wantN, wantE)
	}
	if !same(y, m.tree()) {
		t.Fatalf("Apply of %s: the tree is %s, want %s", told(l), told(y), told(m.tree()))
	}
	if e != api.OK && (w != v || !same(y, was)) {
		t.Fatalf("Apply of %s: with the error %d tree and version are not as they were", told(l), e)
	}
	if !same(x, was) || !slices.Equal(l, handed) {
		t.Fatalf("Apply of %s changes what it was handed", told(handed))
	}
	return y, next, gone, e
}

func freed(t *testing.T, x Tree, m *model, g Gone) Tree {
	t.Helper()
	was, handed := kept(x), Gone{slices.Clone(g.Recs), slices.Clone(g.Chunks)}
	y, e := Free(x, g)
	if want := m.free(g); e != want || !same(y, m.tree()) {
		t.Fatalf("Free of %s = %s, error %d, want %s, error %d", told(g), told(y), e, told(m.tree()), want)
	}
	if !same(x, was) || !sameGone(g, handed) {
		t.Fatalf("Free of %s changes what it was handed", told(handed))
	}
	return y
}

// seen holds all that is told of a version against the model, and asks that nothing of it changes the tree.
func seen(t *testing.T, x Tree, m *model, index list) {
	t.Helper()
	was, v := kept(x), versionOf(index)
	want, ok := m.read(index)
	f, e := Read(x, v)
	g, e2 := Reach(x, v)
	if ok {
		if e != api.OK || !forest.Same(f, want) {
			t.Fatalf("Read of %v = %s, error %d, want %s", v, told(f), e, told(want))
		}
		if e2 != api.OK || !sameGone(g, m.reach(index)) {
			t.Fatalf("Reach of %v = %s, error %d, want %s", v, told(g), e2, told(m.reach(index)))
		}
	} else if e != api.ErrStale || f != nil || e2 != api.ErrStale || !isNone(g) {
		t.Fatalf("Read of %v = %s, error %d, Reach %s, error %d, but it can not be had", v, told(f), e, told(g), e2)
	}
	for id, h := range index.items {
		n, e := Node(x, v, id)
		if m.had(index, id) {
			if e != api.OK || !sameNode(n, m.record[h].node) {
				t.Fatalf("Node %d of %v = %s, error %d, want %s", id, v, told(n), e, told(m.record[h].node))
			}
		} else if e != api.ErrStale || told(n) != told(forest.Node{}) {
			t.Fatalf("Node %d of %v = %s, error %d, but it can not be had", id, v, told(n), e)
		}
	}
	for _, id := range noNodes(len(index.items)) {
		if n, e := Node(x, v, id); e != api.ErrNode || told(n) != told(forest.Node{}) {
			t.Fatalf("Node %d of %v = %s, error %d", id, v, told(n), e)
		}
	}
	if a, b := Live(x); a != len(m.recs.taken) || b != len(m.chunks.taken) {
		t.Fatalf("Live: %d, %d, want %d, %d", a, b, len(m.recs.taken), len(m.chunks.taken))
	}
	if !same(x, was) {
		t.Fatalf("what is asked of %v changes the tree", v)
	}
}

// noNodes are numbers of no node, where there are so many nodes.
func noNodes(many int) []int {
	return []int{-1, -2, many, many + 1, 60, 1 << 24, 1 << 32, math.MinInt, math.MinInt32, math.MaxInt32, math.MaxInt}
}

// P12.1
func TestNew(t *testing.T) {
	for _, recs := range []int{1, 2, 3, 10, 499, 500} {
		for _, chunks := range []int{1, 2, 3, 10, 499, 500} {
			x, v := mustNew(t, recs, chunks)
			s, _ := slots.New(recs)
			s, _, _ = slots.Take(s)
			p, _ := vec.New(chunks)
			p, index, _, _ := vec.Change(p, vec.Vec{}, firsts(0))
			want := Tree{Slots: s, Recs: make([]rec.Rec, recs), Pool: p}
			want.Recs[0] = rec.Rec{Parent: -1}
			if !same(x, want) || v.Index != index || index != (vec.Vec{Root: of(0, 1), Size: 1}) {
				t.Fatalf("New(%d, %d) = %s, %v", recs, chunks, told(x), v)
			}
			isLive(t, x, 1, 1)
			m, l := newModel(recs, chunks)
			if !same(x, m.tree()) || v != versionOf(l) {
				t.Fatalf("the model of %d records and %d chunks is wrong", recs, chunks)
			}
			seen(t, x, m, l)
			if f, e := Read(x, v); e != api.OK || !forest.Same(f, forest.New()) {
				t.Errorf("Read of New(%d, %d): %s, error %d", recs, chunks, told(f), e)
			}
		}
	}
}

// P12.1, R2, R3: a number that may not be comes ahead of no room.
func TestNewOfWrongNumbers(t *testing.T) {
	wrong := []int{-1, -2, -500, 501, 502, 1000, math.MinInt, math.MinInt32, math.MaxInt32, 1 << 32, math.MaxInt}
	check := func(recs, chunks int, want api.Errno) {
		t.Helper()
		if x, v, e := New(recs, chunks); e != want || told(x) != told(Tree{}) || v != (Version{}) {
			t.Errorf("New(%d, %d) = %s, %v, error %d, want %d", recs, chunks, told(x), v, e, want)
		}
	}
	for _, n := range wrong {
		for _, other := range append([]int{0, 1, 500}, wrong...) {
			check(n, other, api.ErrArg)
			check(other, n, api.ErrArg)
		}
	}
	for _, n := range []int{1, 2, 499, 500} {
		check(0, n, api.ErrFull)
		check(n, 0, api.ErrFull)
	}
	check(0, 0, api.ErrFull)
}

// step is a transaction, and by hand what it leaves, and what its version prints and has.
type step struct {
	ops         []op.Op
	gone        Gone
	print       string
	recs, chunk []uint64
}

// steps come one behind the other; nothing is freed in between.
func steps() []step {
	return []step{
		{
			[]op.Op{element("a")},
			Gone{Chunks: firsts(0)}, "", firsts(0, 1), firsts(1),
		},
		{
			[]op.Op{insert(1, 0, 0)},
			Gone{firsts(0, 1), firsts(1)}, "<a></a>", firsts(2, 3), firsts(3, 2),
		},
		{
			[]op.Op{text("x"), insert(2, 1, 0), comment("c"), insert(3, 1, 1)},
			Gone{firsts(3), firsts(3)}, "<a>x<!c!></a>", firsts(2, 4, 5, 6), firsts(5, 2, 4),
		},
		{
			// Its Kids stay, and their list.
			[]op.Op{set(1, "id", "k")},
			Gone{firsts(4), firsts(5)}, `<a id="k">x<!c!></a>`, firsts(2, 7, 5, 6), firsts(6, 2, 4),
		},
		{nil, Gone{}, `<a id="k">x<!c!></a>`, firsts(2, 7, 5, 6), firsts(6, 2, 4)},
		{
			// All is as it was behind these.
			[]op.Op{renew(2, "y"), unset(1, "id"), remove(3), renew(2, "x"), set(1, "id", "k"), insert(3, 1, 1)},
			Gone{}, `<a id="k">x<!c!></a>`, firsts(2, 7, 5, 6), firsts(6, 2, 4),
		},
		{
			[]op.Op{insert(3, 1, 0)},
			Gone{firsts(7), firsts(4, 6)}, `<a id="k"><!c!>x</a>`, firsts(2, 8, 5, 6), firsts(8, 2, 7),
		},
		{
			// Of the Index there are two chunks more, the first node of the second one, and one above both.
			[]op.Op{element("b"), insert(4, 1, 2), insert(2, 4, 0)},
			Gone{firsts(8, 5), firsts(7, 8)}, `<a id="k"><!c!><b>x</b></a>`, firsts(2, 9, 10, 6, 11), firsts(11, 12, 13, 2, 9, 10),
		},
		{
			[]op.Op{remove(2)},
			Gone{firsts(10, 11), firsts(10, 11, 12, 13)}, `<a id="k"><!c!><b></b></a>`, firsts(2, 9, 12, 6, 13), firsts(14, 15, 16, 2, 9),
		},
		{
			// Only the second chunk of the Index has another handle now.
			[]op.Op{set(4, "n", "")},
			Gone{firsts(13), firsts(15, 16)}, `<a id="k"><!c!><b n=""></b></a>`, firsts(2, 9, 12, 6, 14), firsts(14, 17, 18, 2, 9),
		},
	}
}

// P12.3, P12.4, P12.5
func TestSteps(t *testing.T) {
	x, v := mustNew(t, 30, 40)
	m, index := newModel(30, 40)
	trees, versions := []Tree{x}, []Version{v}
	for i, s := range steps() {
		y, w, gone := mustApply(t, x, v, s.ops...)
		if !sameGone(gone, s.gone) {
			t.Fatalf("step %d: gone are %s, want %s", i, told(gone), told(s.gone))
		}
		if r, e := Reach(y, w); e != api.OK || !sameGone(r, Gone{s.recs, s.chunk}) {
			t.Fatalf("step %d: reached are %s, error %d, want %#x, %#x", i, told(r), e, s.recs, s.chunk)
		}
		if p := printed(t, y, w); p != s.print {
			t.Fatalf("step %d: %s, want %s", i, p, s.print)
		}
		if isNone(s.gone) && w != v {
			t.Fatalf("step %d: the version is %v, want %v", i, w, v)
		}
		_, index, _, _ = applied(t, x, m, index, s.ops)
		x, v = y, w
		trees, versions = append(trees, y), append(versions, w)
	}
	isLive(t, x, 15, 19)
	// Each version reads as it did, in its own tree, and in each later one.
	for i, w := range versions {
		want := ""
		if i > 0 {
			want = steps()[i-1].print
		}
		for _, y := range trees[i:] {
			if p := printed(t, y, w); p != want {
				t.Fatalf("version %d: %s, want %s", i, p, want)
			}
		}
	}
}

// P12.2: what Node tells, and what it asks for it.
func TestNode(t *testing.T) {
	x, v := mustNew(t, 30, 40)
	for _, s := range steps() {
		x, v, _ = mustApply(t, x, v, s.ops...)
	}
	want := forest.Forest{
		{Kind: forest.Doc, Parent: -1, Kids: []int{1}},
		{Kind: forest.Element, Name: "a", Attrs: []forest.Attr{{Name: "id", Value: "k"}}, Parent: 0, Kids: []int{3, 4}},
		{Kind: forest.Text, Text: "x", Parent: -1},
		{Kind: forest.Comment, Text: "c", Parent: 1},
		{Kind: forest.Element, Name: "b", Attrs: []forest.Attr{{Name: "n"}}, Parent: 1},
	}
	if f, e := Read(x, v); e != api.OK || !forest.Same(f, want) {
		t.Fatalf("Read: %s, error %d", told(f), e)
	}
	for id, n := range want {
		if got, e := Node(x, v, id); e != api.OK || !sameNode(got, n) {
			t.Errorf("Node %d: %s, error %d", id, told(got), e)
		}
	}
	for _, id := range noNodes(5) {
		if n, e := Node(x, v, id); e != api.ErrNode || told(n) != told(forest.Node{}) {
			t.Errorf("Node %d: %s, error %d", id, told(n), e)
		}
	}
	// By the steps the records are 2, 9, 12, 6, 14; the chunks of Index 14, 17 and, above both, 18; those of Kids 2, 9.
	all := []int{0, 1, 2, 3, 4}
	for _, c := range []struct {
		gone  Gone
		stale []int
	}{
		{Gone{Recs: firsts(2)}, []int{0}}, {Gone{Recs: firsts(9)}, []int{1}}, {Gone{Recs: firsts(12)}, []int{2}},
		{Gone{Recs: firsts(6)}, []int{3}}, {Gone{Recs: firsts(14)}, []int{4}}, {Gone{Recs: firsts(9, 6)}, []int{1, 3}},
		{Gone{Chunks: firsts(14)}, []int{0, 1, 2, 3}}, {Gone{Chunks: firsts(17)}, []int{4}}, {Gone{Chunks: firsts(18)}, all},
		{Gone{Chunks: firsts(2)}, []int{0}}, {Gone{Chunks: firsts(9)}, []int{1}}, {Gone{Recs: firsts(14), Chunks: firsts(9)}, []int{1, 4}},
		{Gone{Recs: firsts(10, 11, 13), Chunks: firsts(10, 11, 12, 13, 15, 16)}, nil}, {Gone{}, nil},
	} {
		y := mustFree(t, x, c.gone)
		// A slot that is taken anew has another generation: who was gone stays gone.
		z, _, _ := mustApply(t, mustFree(t, x, Gone{}), v, renew(2, "z"), renew(3, "z"), set(1, "z", ""), set(4, "z", ""))
		z = mustFree(t, z, c.gone)
		for range 4 {
			z = takenAnew(t, z)
		}
		for _, y := range []Tree{y, z} {
			for id, n := range want {
				got, e := Node(y, v, id)
				if slices.Contains(c.stale, id) {
					if e != api.ErrStale || told(got) != told(forest.Node{}) {
						t.Errorf("%s is freed: Node %d: %s, error %d", told(c.gone), id, told(got), e)
					}
				} else if e != api.OK || !sameNode(got, n) {
					t.Errorf("%s is freed: Node %d: %s, error %d", told(c.gone), id, told(got), e)
				}
			}
			for _, id := range noNodes(5) {
				if _, e := Node(y, v, id); e != api.ErrNode {
					t.Errorf("%s is freed: Node %d: error %d", told(c.gone), id, e)
				}
			}
			if len(c.stale) > 0 {
				isStale(t, y, v)
			} else if f, e := Read(y, v); e != api.OK || !forest.Same(f, want) {
				t.Errorf("%s is freed: Read: %s, error %d", told(c.gone), told(f), e)
			}
		}
	}
}

// takenAnew is x with a record and a chunk more: those that were given back last are taken first.
func takenAnew(t *testing.T, x Tree) Tree {
	t.Helper()
	y := kept(x)
	s, h, e := slots.Take(y.Slots)
	if e != api.OK {
		t.Fatal(e)
	}
	y.Slots, y.Recs[h&(1<<24-1)] = s, rec.Rec{Kind: forest.Text, Text: "new", Parent: -1}
	p, _, _, e := vec.Change(y.Pool, vec.Vec{}, firsts(2))
	if e != api.OK {
		t.Fatal(e)
	}
	y.Pool = p
	return y
}

// isStale asks that every call that needs the whole version says that it can't be had.
func isStale(t *testing.T, x Tree, v Version) {
	t.Helper()
	was := kept(x)
	if f, e := Read(x, v); e != api.ErrStale || f != nil {
		t.Errorf("Read of %v: %s, error %d", v, told(f), e)
	}
	if g, e := Reach(x, v); e != api.ErrStale || !isNone(g) {
		t.Errorf("Reach of %v: %s, error %d", v, told(g), e)
	}
	// That the version is gone comes ahead of what is wrong with the operations.
	for _, l := range [][]op.Op{nil, {}, {text("x")}, {{}}, {remove(99)}, {text("x"), element("")}} {
		y, w, gone, n, e := Apply(x, v, l)
		if e != api.ErrStale || n != 0 || w != v || !isNone(gone) || !same(y, was) {
			t.Errorf("Apply of %s to %v: %v, %s, %d, error %d", told(l), v, w, told(gone), n, e)
		}
	}
	if !same(x, was) {
		t.Errorf("what is asked of %v changes the tree", v)
	}
}

// sample is a tree with a version of <a id="k">x<!c!></a>, and a text that stands alone.
func sample(t *testing.T, recs, chunks int) (Tree, Version) {
	t.Helper()
	x, v := mustNew(t, recs, chunks)
	x, v, gone := mustApply(t, x, v, element("a"), insert(1, 0, 0), text("x"), insert(2, 1, 0), comment("c"), insert(3, 1, 1), set(1, "id", "k"), text("alone"))
	return mustFree(t, x, gone), v
}

// P12.3: the error of the first operation that has one, and its place; nothing of those ahead of it is done.
func TestWrongOperations(t *testing.T) {
	long := strings.Repeat("t", 61)
	good := []op.Op{element("g"), set(1, "n", "v"), insert(3, 1, 0)}
	for _, c := range []struct {
		o op.Op
		e api.Errno
	}{
		{op.Op{}, api.ErrArg}, {op.Op{Kind: 9}, api.ErrArg}, {op.Op{Kind: -1}, api.ErrArg}, {op.Op{Kind: op.Remove, Id: 1, At: 1}, api.ErrArg},
		{element(""), api.ErrName}, {element("1"), api.ErrName}, {text(long), api.ErrName}, {comment(long), api.ErrName}, {set(1, "", ""), api.ErrName}, {renew(2, long), api.ErrName},
		{remove(99), api.ErrNode}, {insert(99, 0, 0), api.ErrNode}, {insert(1, -1, 0), api.ErrArg}, {renew(6, ""), api.ErrNode},
		{remove(0), api.ErrKind}, {insert(2, 0, 0), api.ErrKind}, {insert(1, 2, 0), api.ErrKind}, {set(2, "a", ""), api.ErrKind}, {renew(1, ""), api.ErrKind},
		{remove(4), api.ErrNone}, {insert(1, 1, 0), api.ErrCycle}, {insert(2, 1, 9), api.ErrIndex}, {unset(1, "z"), api.ErrAttr},
	} {
		for at := range 4 {
			for _, room := range []int{0, 30} {
				// Also where there is no room for what is ahead of it: no version is made.
				x, v := sample(t, 6+room, 6+room)
				l := slices.Insert(slices.Clone(good), at, c.o)
				was := kept(x)
				_, _, wantE := apply.All(mustRead(t, x, v), l)
				if at == 0 && wantE != c.e && c.e != api.ErrArg {
					t.Fatalf("%s has the error %d, want %d", told(c.o), wantE, c.e)
				}
				y, w, gone, n, e := Apply(x, v, l)
				if e != wantE || e == api.OK || n != at || w != v || !isNone(gone) || !same(y, was) || !same(x, was) {
					t.Errorf("Apply of %s: %v, %s, %d, error %d, want the error %d at %d", told(l), w, told(gone), n, e, wantE, at)
				}
			}
		}
	}
	// Two errors: the first one is told.
	x, v := sample(t, 30, 30)
	if _, _, _, n, e := Apply(x, v, []op.Op{text("y"), remove(4), remove(99), {}}); n != 1 || e != api.ErrNone {
		t.Errorf("Apply of two errors: %d, error %d", n, e)
	}
}

func mustRead(t *testing.T, x Tree, v Version) forest.Forest {
	t.Helper()
	f, e := Read(x, v)
	if e != api.OK {
		t.Fatalf("Read of %v: error %d", v, e)
	}
	return f
}

// P12.3: 60 nodes there may be; the next one has its place.
func TestMaxNodes(t *testing.T) {
	x, v := mustNew(t, 500, 500)
	m, index := newModel(500, 500)
	for range 3 {
		var l []op.Op
		for range 19 {
			l = append(l, text("x"))
		}
		x, index, _, _ = applied(t, x, m, index, l)
	}
	v = versionOf(index)
	if _, w, gone, n, e := Apply(x, v, []op.Op{comment("a"), element("b"), comment("c")}); n != 2 || e != api.ErrFull || w != v || !isNone(gone) {
		t.Errorf("60 nodes, and one more: %d, error %d", n, e)
	}
	x, index, _, _ = applied(t, x, m, index, []op.Op{element("a"), element("b")})
	x, index, _, e := applied(t, x, m, index, []op.Op{comment("a")})
	if e != api.ErrFull {
		t.Errorf("61 nodes: error %d", e)
	}
	seen(t, x, m, index)
	// All of them but the document and an element are the Kids of that one: its list has three levels.
	var l []op.Op
	for id := 1; id < 60; id++ {
		if id != 58 {
			l = append(l, insert(id, 58, 0))
		}
	}
	x, index, _, e = applied(t, x, m, index, append(l, insert(58, 0, 0)))
	if e != api.OK {
		t.Fatalf("58 Kids: error %d", e)
	}
	seen(t, x, m, index)
	x, index, gone, e := applied(t, x, m, index, []op.Op{remove(58), remove(30)})
	if e != api.OK || len(gone.Recs) != 3 {
		t.Fatalf("57 Kids: %s, error %d", told(gone), e)
	}
	seen(t, x, m, index)
}

// P12.3: a tree that has just enough room, and such that have too few records, or chunks: for the Kids' list, the record, or the Index.
func TestJustLargeEnough(t *testing.T) {
	whole := []op.Op{element("a"), insert(1, 0, 0), text("x"), insert(2, 1, 0)}
	many := func(n int) []op.Op {
		l := []op.Op{element("a")}
		for id := range n {
			l = append(l, text("x"), insert(id+2, 1, 0))
		}
		return l
	}
	for _, c := range []struct {
		what         string
		ahead, l     []op.Op
		recs, chunks int
	}{
		{"nothing", nil, nil, 1, 1},
		{"the same again", whole, []op.Op{renew(2, "y"), renew(2, "x")}, 4, 4},
		{"a node: its record, and the Index", nil, []op.Op{element("a")}, 2, 2},
		{"first Kids: two records, a list, the Index", nil, whole[:2], 3, 3},
		{"two lists", nil, whole, 4, 4},
		{"another text: a record, the Index", whole, []op.Op{renew(2, "y")}, 5, 5},
		{"no Kids any more: two records, the Index, and no list", whole, []op.Op{remove(2)}, 6, 5},
		{"five Kids: seven records; the Index has three chunks, the Kids too", nil, many(5), 7, 7},
		{"four Kids: one list of one chunk", nil, many(4), 6, 5},
		{"a fifth Kid: three chunks of a list, of which one was there", many(4), []op.Op{text("y"), insert(6, 1, 4)}, 8, 10},
		{"another order of five Kids: a record, their three chunks, two of the Index", many(5), []op.Op{insert(2, 1, 0)}, 8, 12},
		{"a fifth node: the first chunk of the Index was there", []op.Op{text("a"), text("b"), text("c")}, []op.Op{text("d")}, 5, 4},
	} {
		fits := func(recs, chunks int) api.Errno {
			x, v, e := New(recs, chunks)
			if e != api.OK {
				return e
			}
			m, index := newModel(recs, chunks)
			// Nothing is freed, so that what is ahead does not need the room that is told.
			x, index, _, e = applied(t, x, m, index, c.ahead)
			if e != api.OK {
				return e
			}
			v = versionOf(index)
			was := kept(x)
			y, w, left, n, e := Apply(x, v, c.l)
			if e != api.OK && (e != api.ErrFull || n != len(c.l) || w != v || !isNone(left) || !same(y, was)) {
				t.Errorf("%s, with %d records and %d chunks: %d, error %d", c.what, recs, chunks, n, e)
			}
			applied(t, x, m, index, c.l)
			return e
		}
		recs, chunks := c.recs, c.chunks
		if e := fits(recs, chunks); e != api.OK {
			t.Errorf("%s: %d records and %d chunks are just enough, but the error is %d", c.what, recs, chunks, e)
		}
		for few := range recs {
			if e := fits(few, chunks); e != api.ErrFull {
				t.Errorf("%s: %d records are too few, but the error is %d", c.what, few, e)
			}
		}
		for few := range chunks {
			if e := fits(recs, few); e != api.ErrFull {
				t.Errorf("%s: %d chunks are too few, but the error is %d", c.what, few, e)
			}
		}
	}
}

// chains are short runs of transactions, of each kind of operation, and one with an error each.
func chains() [][][]op.Op {
	return [][][]op.Op{
		{{element("a")}, {insert(1, 0, 0)}, {text("x"), insert(2, 1, 0)}, {remove(2)}, {remove(2)}, {insert(2, 1, 0), renew(2, "y")}},
		{{text("x"), text("y"), text("z")}, {element("a"), insert(1, 4, 0), insert(2, 4, 0), insert(3, 4, 0)}, {remove(1), remove(2), remove(3)}, nil},
		{{element("a"), set(1, "b", "c")}, {set(1, "d", "e"), {}}, {set(1, "d", "e")}, {unset(1, "b")}, {set(1, "b", "c")}, {unset(1, "d"), unset(1, "b")}},
		{{comment("a"), insert(1, 0, 0), comment("b"), insert(2, 0, 0), element("c"), insert(3, 0, 1)}, {insert(2, 3, 0)}, {insert(1, 3, 1)}, {insert(3, 0, 0)}, {insert(2, 0, 1)}},
	}
}

// P12.1, P12.3: trees of all small sizes, of which many are too small.
func TestSmallTrees(t *testing.T) {
	for recs := 1; recs <= 12; recs++ {
		for chunks := 1; chunks <= 12; chunks++ {
			for _, chain := range chains() {
				for _, freeing := range []bool{false, true} {
					x, _ := mustNew(t, recs, chunks)
					m, index := newModel(recs, chunks)
					for _, l := range chain {
						var gone Gone
						x, index, gone, _ = applied(t, x, m, index, l)
						if freeing {
							x = freed(t, x, m, gone)
						}
						seen(t, x, m, index)
					}
				}
			}
		}
	}
}

// P12.3: one record and one chunk alone: nothing can be made, but nothing is refused that needs no room.
func TestOneRecordAndOneChunk(t *testing.T) {
	x, v := mustNew(t, 1, 1)
	m, index := newModel(1, 1)
	for _, l := range [][]op.Op{nil, {}} {
		if y, w, gone, n, e := Apply(x, v, l); e != api.OK || n != 0 || w != v || !isNone(gone) || !same(x, y) {
			t.Errorf("Apply of nothing: %v, %d, error %d", w, n, e)
		}
	}
	for _, l := range [][]op.Op{{element("a")}, {text("")}, {comment(""), remove(1)}, {element("a"), insert(1, 0, 0)}, {remove(0)}} {
		applied(t, x, m, index, l)
	}
	seen(t, x, m, index)
	isLive(t, x, 1, 1)
	y := mustFree(t, x, Gone{firsts(0), firsts(0)})
	isLive(t, y, 0, 0)
	isStale(t, y, v)
}

// P12.4
func TestFree(t *testing.T) {
	x, v := mustNew(t, 30, 40)
	var w Version
	var all []Gone
	for _, s := range steps() {
		var gone Gone
		w = v
		x, v, gone = mustApply(t, x, v, s.ops...)
		all = append(all, gone)
	}
	was := kept(x)
	if !same(mustFree(t, x, Gone{}), was) || !same(mustFree(t, x, Gone{[]uint64{}, []uint64{}}), was) {
		t.Error("Free of nothing changes the tree")
	}
	// By hand: the last one that is given back is the next one; the record is empty, and so is the chunk.
	y := mustFree(t, x, Gone{firsts(4, 3), firsts(6, 0)})
	if !slices.Equal(y.Slots.Free[len(y.Slots.Free)-2:], []int{4, 3}) || !slices.Equal(y.Pool.Slots.Free[len(y.Pool.Slots.Free)-2:], []int{6, 0}) ||
		y.Slots.Gens[3] != 2 || y.Pool.Slots.Gens[0] != 2 || y.Slots.Used[4] || y.Pool.Slots.Used[6] ||
		!sameRec(y.Recs[4], rec.Rec{}) || !sameRec(y.Recs[3], rec.Rec{}) || y.Pool.Chunks[6] != (vec.Chunk{}) || y.Pool.Chunks[0] != (vec.Chunk{}) {
		t.Errorf("Free: %s", told(y))
	}
	isLive(t, y, 13, 17)
	z, _, _ := mustApply(t, y, v, renew(2, "new"))
	if !sameRec(z.Recs[3], rec.Rec{Kind: forest.Text, Text: "new", Parent: -1}) || z.Slots.Gens[3] != 2 || z.Pool.Chunks[0].N != 4 || z.Pool.Chunks[6].N != 2 {
		t.Errorf("taken anew: %s", told(z))
	}
	// All that the steps left: just the last version is there.
	y = x
	for _, gone := range all {
		y = mustFree(t, y, gone)
	}
	isLive(t, y, 5, 5)
	if p := printed(t, y, v); p != `<a id="k"><!c!><b n=""></b></a>` {
		t.Errorf("the last version is %s", p)
	}
	isStale(t, y, w)
	r, e := Reach(y, v)
	if e != api.OK {
		t.Fatal(e)
	}
	y = mustFree(t, y, r)
	isLive(t, y, 0, 0)
	isStale(t, y, v)
	if len(y.Slots.Free) != 30 || slices.ContainsFunc(y.Recs, func(r rec.Rec) bool { return !sameRec(r, rec.Rec{}) }) {
		t.Errorf("all is freed: %s", told(y))
	}
}

// P12.4: handles that are not live, at each place: nothing is given back.
func TestFreeOfStaleHandles(t *testing.T) {
	x, v := sample(t, 20, 20)
	r, e := Reach(x, v)
	if e != api.OK {
		t.Fatal(e)
	}
	was := kept(x)
	// Of the slots 0 the first handles are gone by now: sample freed them.
	for _, h := range []uint64{0, of(0, 1), of(0, 2), of(1, 0), of(1, 2), of(19, 1), of(20, 1), of(500, 1), 1, 1<<24 - 1, 1 << 63, math.MaxUint64} {
		for at := range len(r.Recs) + 1 {
			bad := Gone{slices.Insert(slices.Clone(r.Recs), at, h), r.Chunks}
			if y, e := Free(x, bad); e != api.ErrStale || !same(y, was) || !same(x, was) {
				t.Errorf("Free of the record %#x at %d: error %d", h, at, e)
			}
		}
		for at := range len(r.Chunks) + 1 {
			bad := Gone{r.Recs, slices.Insert(slices.Clone(r.Chunks), at, h)}
			if y, e := Free(x, bad); e != api.ErrStale || !same(y, was) || !same(x, was) {
				t.Errorf("Free of the chunk %#x at %d: error %d", h, at, e)
			}
		}
		for _, bad := range []Gone{{Recs: []uint64{h}}, {Chunks: []uint64{h}}} {
			if y, e := Free(x, bad); e != api.ErrStale || !same(y, was) {
				t.Errorf("Free of %s: error %d", told(bad), e)
			}
		}
	}
	// Twice the same one: the second one is not live then.
	for _, h := range r.Recs {
		if y, e := Free(x, Gone{Recs: []uint64{h, h}}); e != api.ErrStale || !same(y, was) {
			t.Errorf("Free of the record %#x twice: error %d", h, e)
		}
	}
	for _, h := range r.Chunks {
		if y, e := Free(x, Gone{Recs: r.Recs, Chunks: []uint64{h, h}}); e != api.ErrStale || !same(y, was) {
			t.Errorf("Free of the chunk %#x twice: error %d", h, e)
		}
	}
	y := mustFree(t, x, r)
	gone := kept(y)
	for _, g := range []Gone{r, {Recs: r.Recs[:1]}, {Chunks: r.Chunks[4:]}} {
		if z, e := Free(y, g); e != api.ErrStale || !same(z, gone) {
			t.Errorf("Free of %s, once more: error %d", told(g), e)
		}
	}
	if printed(t, x, v) != `<a id="k">x<!c!></a>` {
		t.Error("the version does not stay")
	}
}

// dice is a run of numbers that is always the same.
type dice uint32

func (d *dice) roll(n int) int {
	*d = *d*1664525 + 1013904223
	return int(*d>>8) % n
}

// thrown is an operation that is likely to be done in a forest of so many nodes.
func thrown(d *dice, nodes int) op.Op {
	texts := []string{"", "a", "b", "&<", "x\xff", strings.Repeat("t", 60)}
	names := []string{"a", "b", "c", "id", "class", "h1"}
	s, name := texts[d.roll(len(texts))], names[d.roll(len(names))]
	id := d.roll(nodes)
	switch d.roll(14) {
	case 0, 1:
		return element(name)
	case 2:
		return text(s)
	case 3:
		return comment(s)
	case 4:
		return remove(id)
	case 5, 6:
		return set(id, name, s)
	case 7:
		return unset(id, name)
	case 8:
		return renew(id, s)
	case 9:
		return insert(id, 0, 0)
	}
	return insert(id, d.roll(nodes), d.roll(3))
}

// transaction is operations that are done, one behind the other, but for a last one now and then.
func transaction(d *dice, f forest.Forest) []op.Op {
	var l []op.Op
	for tries := 0; tries < 8; tries++ {
		o := thrown(d, len(f))
		g, e := apply.One(f, o)
		if e == api.OK {
			f = g
			l = append(l, o)
		}
	}
	if d.roll(12) == 0 {
		l = append(l, remove(len(f)))
	}
	return l
}

// P12.5: each version reads as it did, whatever is applied, till one of its handles is freed; then it is stale.
func TestVersionsStay(t *testing.T) {
	for seed := range 12 {
		d := dice(seed)
		x, _ := mustNew(t, 500, 500)
		m, index := newModel(500, 500)
		versions := []list{index}
		for range 60 {
			// Not only the last one goes on: versions branch.
			from := versions[d.roll(len(versions))]
			f, _ := m.read(from)
			var next list
			var e api.Errno
			x, next, _, e = applied(t, x, m, from, transaction(&d, f))
			if e == api.OK {
				versions = append(versions, next)
			}
		}
		if len(versions) < 20 {
			t.Fatalf("only %d versions", len(versions))
		}
		for _, v := range versions {
			if _, ok := m.read(v); !ok {
				t.Fatal("the model is wrong")
			}
			seen(t, x, m, v)
		}
		// Behind a Free just those versions are gone that have what was freed.
		recs, chunks := slots.All(x.Slots), slots.All(x.Pool.Slots)
		for _, g := range []Gone{{Recs: recs[9:10]}, {Chunks: chunks[11:12]}, {recs[20:22], chunks[3:5]}} {
			y, was := x, [2]*arena{m.recs.kept(), m.chunks.kept()}
			y = freed(t, y, m, g)
			for _, v := range versions {
				r := m.reach(v)
				has := func(l []uint64) func(uint64) bool {
					return func(h uint64) bool { return slices.Contains(l, h) }
				}
				_, ok := m.read(v)
				if ok == (slices.ContainsFunc(r.Recs, has(g.Recs)) || slices.ContainsFunc(r.Chunks, has(g.Chunks))) {
					t.Fatal("the model is wrong")
				}
				seen(t, y, m, v)
			}
			m.recs, m.chunks = was[0], was[1]
		}
	}
}

// P12.5: if what each Apply left is freed, just what the last version reaches is live.
func TestNothingIsLost(t *testing.T) {
	full := 0
	for seed := range 30 {
		d := dice(seed)
		recs, chunks := 500-16*seed, 500-15*seed
		x, v := mustNew(t, recs, chunks)
		isAllThatIsLive(t, x, v)
		var ahead []Version
		for range 80 {
			y, w, gone, n, e := Apply(x, v, transaction(&d, mustRead(t, x, v)))
			if e != api.OK {
				if w != v || !isNone(gone) || !same(x, y) {
					t.Fatalf("the error %d at %d: %s", e, n, told(gone))
				}
				if e == api.ErrFull {
					full++
				}
				continue
			}
			want := mustRead(t, y, w)
			if !isNone(gone) {
				ahead = append(ahead, v)
			}
			x, v = mustFree(t, y, gone), w
			if !forest.Same(mustRead(t, x, v), want) {
				t.Fatal("Free of what is gone changes the version that came of it")
			}
			isAllThatIsLive(t, x, v)
		}
		for _, w := range ahead {
			if _, e := Read(x, w); e != api.ErrStale {
				t.Fatalf("a version of which something is freed reads with the error %d", e)
			}
		}
	}
	if full < 20 {
		t.Errorf("there was no room %d times", full)
	}
}

// isAllThatIsLive asks that just what v reaches is taken, each once, and that all else is empty.
func isAllThatIsLive(t *testing.T, x Tree, v Version) {
	t.Helper()
	r, e := Reach(x, v)
	if e != api.OK {
		t.Fatal(e)
	}
	if !slices.Equal(slices.Sorted(slices.Values(r.Recs)), slices.Sorted(slices.Values(slots.All(x.Slots)))) ||
		!slices.Equal(slices.Sorted(slices.Values(r.Chunks)), slices.Sorted(slices.Values(slots.All(x.Pool.Slots)))) {
		t.Fatalf("live are %#x, %#x, reached %s", slots.All(x.Slots), slots.All(x.Pool.Slots), told(r))
	}
	isLive(t, x, len(r.Recs), len(r.Chunks))
	for i, used := range x.Slots.Used {
		if !used && !sameRec(x.Recs[i], rec.Rec{}) {
			t.Fatalf("the record %d is free, and has %s", i, told(x.Recs[i]))
		}
	}
	for i, used := range x.Pool.Slots.Used {
		if !used && x.Pool.Chunks[i] != (vec.Chunk{}) {
			t.Fatalf("the chunk %d is free, and has %v", i, x.Pool.Chunks[i])
		}
	}
}

// P12.2 to P12.5: long runs of transactions and frees, of versions new and old, against the model.
func TestRuns(t *testing.T) {
	errs := map[api.Errno]int{}
	for seed := range 60 {
		d := dice(seed)
		recs, chunks := []int{1, 3, 8, 20, 90, 200}[seed%6], []int{1, 4, 9, 30, 60, 200, 500}[seed%7]
		x, _ := mustNew(t, recs, chunks)
		m, index := newModel(recs, chunks)
		versions := []list{index}
		var last []Gone
		for range 60 {
			from := versions[max(d.roll(len(versions)), d.roll(len(versions)))]
			switch d.roll(8) {
			case 0:
				var g Gone
				for range d.roll(3) {
					g.Recs = append(g.Recs, of(d.roll(recs+1), uint64(d.roll(4))))
				}
				for range d.roll(3) {
					g.Chunks = append(g.Chunks, of(d.roll(chunks+1), uint64(d.roll(4))))
				}
				x = freed(t, x, m, g)
			case 1, 2:
				if len(last) > 0 {
					x = freed(t, x, m, last[0])
					last = last[1:]
				}
			default:
				f, ok := m.read(from)
				if !ok {
					f = forest.New()
				}
				var next list
				var gone Gone
				var e api.Errno
				x, next, gone, e = applied(t, x, m, from, transaction(&d, f))
				errs[e]++
				if e == api.OK {
					versions, last = append(versions, next), append(last, gone)
				}
			}
			seen(t, x, m, versions[d.roll(len(versions))])
		}
		for _, v := range versions {
			seen(t, x, m, v)
		}
	}
	for _, e := range []api.Errno{api.OK, api.ErrFull, api.ErrStale, api.ErrNode} {
		if errs[e] < 20 {
			t.Errorf("the error %d came %d times", e, errs[e])
		}
	}
}

// roomy is t with room behind the ends of its lists, where something stands.
func roomy(t Tree) Tree {
	c := kept(t)
	behind := func(s *slots.State) {
		s.Gens = append(s.Gens, 77)[:len(s.Gens)]
		s.Used = append(s.Used, true)[:len(s.Used)]
		s.Free = append(s.Free, 77)[:len(s.Free)]
	}
	behind(&c.Slots)
	behind(&c.Pool.Slots)
	c.Pool.Chunks = append(c.Pool.Chunks, vec.Chunk{N: 77})[:len(c.Pool.Chunks)]
	c.Recs = append(c.Recs, rec.Rec{Kind: 77})[:len(c.Recs)]
	for i, r := range c.Recs {
		c.Recs[i].Attrs = append(r.Attrs, "behind")[:len(r.Attrs)]
	}
	return c
}

// whole tells all of t, with what stands behind the ends of its lists.
func whole(t Tree) string {
	all := func(s slots.State) slots.State {
		return slots.State{Gens: s.Gens[:cap(s.Gens)], Used: s.Used[:cap(s.Used)], Free: s.Free[:cap(s.Free)]}
	}
	c := Tree{Slots: all(t.Slots), Recs: slices.Clone(t.Recs[:cap(t.Recs)]), Pool: vec.Pool{Slots: all(t.Pool.Slots), Chunks: t.Pool.Chunks[:cap(t.Pool.Chunks)]}}
	for i, r := range c.Recs {
		c.Recs[i].Attrs = r.Attrs[:cap(r.Attrs)]
	}
	return told(c)
}

// over writes over a list, also behind its end.
func over[T any](l []T, turn func(*T)) {
	l = l[:cap(l)]
	for i := range l {
		turn(&l[i])
	}
}

func overNumbers(l []uint64) { over(l, func(x *uint64) { *x += 77 }) }

func overSlots(s slots.State) {
	overNumbers(s.Gens)
	over(s.Used, func(x *bool) { *x = !*x })
	over(s.Free, func(x *int) { *x += 99 })
}

// overTree writes over all of a tree that can be reached.
func overTree(t Tree) {
	overSlots(t.Slots)
	overSlots(t.Pool.Slots)
	over(t.Pool.Chunks, func(c *vec.Chunk) { *c = vec.Chunk{N: c.N + 1, Items: [4]uint64{5, 6, 7, 8}} })
	over(t.Recs, func(r *rec.Rec) {
		over(r.Attrs, func(s *string) { *s += "over" })
		*r = rec.Rec{Kind: 9, Name: "over"}
	})
}

func overNode(n forest.Node) {
	over(n.Attrs, func(a *forest.Attr) { *a = forest.Attr{Name: "over", Value: "over"} })
	over(n.Kids, func(k *int) { *k += 99 })
}

func overForest(f forest.Forest) {
	over(f, func(n *forest.Node) {
		overNode(*n)
		*n = forest.Node{Kind: 9}
	})
}

func overGone(g Gone) {
	overNumbers(g.Recs)
	overNumbers(g.Chunks)
}

// lists are transactions that sample lets be done, and such that have errors.
func lists() [][]op.Op {
	return [][]op.Op{
		nil, {text("y")}, {renew(2, "y")}, {set(1, "id", "y"), set(1, "n", "y")}, {remove(2), remove(3)}, {insert(4, 1, 1)}, {unset(1, "id")}, {renew(2, "x")},
		{text("a"), text("b"), text("c"), text("d"), text("e")}, {remove(4)}, {renew(2, "y"), {}},
	}
}

// answers is every call, of x, v, l and g; what it tells stays till the end, and is written over then. It tells all of it as a text.
func answers(x Tree, v Version, l []op.Op, g Gone) (string, func()) {
	y, w, gone, n, e := Apply(x, v, l)
	z, e2 := Free(x, g)
	f, e3 := Read(x, v)
	r, e4 := Reach(x, v)
	nodes := forest.Forest{}
	for id := -1; id <= v.Index.Size; id++ {
		n, _ := Node(x, v, id)
		nodes = append(nodes, n)
	}
	recs, chunks := Live(x)
	all := told([]any{y, w, gone, n, e, z, e2, f, e3, r, e4, nodes, recs, chunks})
	return all, func() {
		overTree(y)
		overGone(gone)
		overTree(z)
		overForest(f)
		overGone(r)
		overForest(nodes)
	}
}

// R4: trees, operations and handles stay as they were behind every call, with what stands behind their ends; so do they if the answer is written over.
func TestWhatIsHandedInStays(t *testing.T) {
	for _, size := range []int{7, 40} {
		for _, l := range lists() {
			x, v := sample(t, size, size)
			r, _ := Reach(x, v)
			for _, g := range []Gone{{}, r, {Recs: r.Recs[:2], Chunks: r.Chunks[:1]}, {Recs: append(slices.Clone(r.Recs), 0)}, {Chunks: append(slices.Clone(r.Chunks), 0)}} {
				for _, y := range []Tree{roomy(x), roomy(mustFree(t, x, Gone{Recs: r.Recs[1:2]})), roomy(mustFree(t, x, Gone{Chunks: r.Chunks[:1]}))} {
					was := whole(y)
					handed := append(slices.Clone(l), op.Op{Kind: 77})
					list := handed[:len(l)]
					h := Gone{append(slices.Clone(g.Recs), 77)[:len(g.Recs)], append(slices.Clone(g.Chunks), 77)[:len(g.Chunks)]}
					first, scribble := answers(y, v, list, h)
					scribble()
					if whole(y) != was || !slices.Equal(list, l) || handed[len(l)].Kind != 77 || !sameGone(h, g) {
						t.Fatalf("Apply of %s, Free of %s: %s became %s", told(l), told(g), was, whole(y))
					}
					if again, _ := answers(y, v, list, h); again != first {
						t.Fatalf("Apply of %s, Free of %s, once more: %s, and %s", told(l), told(g), again, first)
					}
				}
			}
		}
	}
	x, _ := mustNew(t, 4, 5)
	was := told(x)
	y, _ := mustNew(t, 4, 5)
	overTree(x)
	if z, _ := mustNew(t, 4, 5); told(y) != was || told(z) != was {
		t.Error("what New told reaches the next one")
	}
}

// R4: an answer hangs on nothing that was handed in, and no two of its lists share a place.
func TestAnswersShareNothing(t *testing.T) {
	for _, l := range lists() {
		x, v := sample(t, 40, 40)
		x, v, _ = mustApply(t, x, v, set(1, "n", "y"))
		r, _ := Reach(x, v)
		l, g := slices.Clone(l), Gone{Recs: r.Recs[1:3], Chunks: r.Chunks[:2]}
		y, _, gone, _, _ := Apply(x, v, l)
		z, _ := Free(x, g)
		f, _ := Read(x, v)
		n, _ := Node(x, v, 1)
		want := told([]any{y, gone, z, f, n})
		overTree(x)
		overGone(r)
		for i := range l {
			l[i] = op.Op{Kind: 9, Name: "over"}
		}
		if now := told([]any{y, gone, z, f, n}); now != want {
			t.Fatalf("%s became %s", want, now)
		}
		// Behind the end of one list none of another one's items may stand.
		for _, n := range append(f, n) {
			over(n.Attrs[len(n.Attrs):], func(a *forest.Attr) { a.Name = "over" })
			over(n.Kids[len(n.Kids):], func(k *int) { *k += 99 })
		}
		for _, t := range []Tree{y, z} {
			for _, s := range []slots.State{t.Slots, t.Pool.Slots} {
				overNumbers(s.Gens[len(s.Gens):])
				over(s.Free[len(s.Free):], func(x *int) { *x += 99 })
			}
			for _, r := range t.Recs {
				over(r.Attrs[len(r.Attrs):], func(s *string) { *s += "over" })
			}
		}
		overNumbers(gone.Recs[len(gone.Recs):])
		overNumbers(gone.Chunks[len(gone.Chunks):])
		if now := told([]any{y, gone, z, f, n}); now != want {
			t.Fatalf("lists of one answer: %s became %s", want, now)
		}
	}
}

// R6: lists without elements and nil lists are alike.
func TestEmptyListsAreAlike(t *testing.T) {
	x, v := sample(t, 20, 20)
	y := kept(x)
	for i, r := range y.Recs {
		if len(r.Attrs) == 0 {
			y.Recs[i].Attrs = []string{}
		}
	}
	for _, l := range lists() {
		a, va, ga, na, ea := Apply(x, v, l)
		b, vb, gb, nb, eb := Apply(y, v, append([]op.Op{}, l...))
		if !same(a, b) || va != vb || !sameGone(ga, gb) || na != nb || ea != eb {
			t.Errorf("Apply of %s: %s, %s, %d, error %d, and %s, %s, %d, error %d", told(l), told(a), told(ga), na, ea, told(b), told(gb), nb, eb)
		}
	}
	if !forest.Same(mustRead(t, x, v), mustRead(t, y, v)) {
		t.Error("Read of empty lists of attributes differs")
	}
	// A tree that fills up tells no free slots: such a list is as none.
	z, w := mustNew(t, 1, 1)
	z.Slots.Free, z.Pool.Slots.Free = nil, []int{}
	if _, u, gone, n, e := Apply(z, w, nil); e != api.OK || n != 0 || u != w || !isNone(gone) {
		t.Errorf("Apply of nothing: error %d", e)
	}
}

// What New told with an error, and versions of other trees: nothing is said of them, but the calls end.
func TestOtherTrees(t *testing.T) {
	x, v := sample(t, 40, 40)
	small, old := mustNew(t, 2, 2)
	for _, y := range []Tree{{}, small, x} {
		for _, w := range []Version{{}, v, old, {vec.Vec{Size: 1}}, {vec.Vec{Root: of(1, 1), Size: 3}}, {vec.Vec{Size: -1}}, {vec.Vec{Root: math.MaxUint64, Size: 60}}, {vec.Vec{Size: math.MinInt}}} {
			was := kept(y)
			for _, l := range lists() {
				if _, scribble := answers(y, Version{w.Index}, l, Gone{}); scribble != nil {
					scribble()
				}
			}
			if !same(y, was) {
				t.Errorf("what is asked of %v changes the tree", w)
			}
		}
	}
	if a, b := Live(Tree{}); a != 0 || b != 0 {
		t.Errorf("Live of no tree: %d, %d", a, b)
	}
}

// read makes an operation of bytes, of texts and names that may be, and of some that may not.
func read(b [3]byte) op.Op {
	names := []string{"a", "b", "id", "class", "", "1"}
	texts := []string{"", "x", "y", strings.Repeat("t", 60), strings.Repeat("t", 61)}
	id, name, s := int(b[1]%64), names[int(b[2])%len(names)], texts[int(b[2])%len(texts)]
	switch b[0] % 8 {
	case 0:
		return element(name)
	case 1:
		return text(s)
	case 2:
		return comment(s)
	case 3:
		return insert(id, int(b[2]%8), int(b[2]/8%4))
	case 4:
		return remove(id)
	case 5:
		return set(id, name, s)
	case 6:
		return unset(id, name)
	}
	return renew(id, s)
}

// FuzzTree holds any run of transactions and frees against the model.
func FuzzTree(f *testing.F) {
	f.Add(20, 20, []byte{0, 0, 0, 3, 1, 0, 128, 0, 0, 1, 0, 1, 3, 2, 1, 128, 0, 0, 7, 2, 2, 129, 1, 0, 130, 0, 0})
	f.Add(3, 3, []byte{0, 0, 0, 3, 1, 0, 128, 0, 0, 130, 0, 0, 4, 1, 0, 128, 0, 0})
	f.Add(1, 1, []byte{1, 0, 0, 128, 0, 0, 131, 0, 0})
	f.Add(500, 500, []byte{0, 0, 0, 5, 1, 2, 128, 0, 0, 6, 1, 2, 128, 0, 0, 131, 1, 0, 1, 1, 1, 128, 0, 0})
	f.Fuzz(func(t *testing.T, recs, chunks int, calls []byte) {
		if recs < 1 || recs > 500 || chunks < 1 || chunks > 500 || len(calls) > 400 {
			return
		}
		x, _ := mustNew(t, recs, chunks)
		m, index := newModel(recs, chunks)
		versions := []list{index}
		var l []op.Op
		var gone Gone
		for ; len(calls) >= 3; calls = calls[3:] {
			if calls[0] < 128 {
				l = append(l, read([3]byte(calls)))
				continue
			}
			from := versions[len(versions)-1]
			switch calls[0] % 4 {
			case 0, 1:
				if calls[0]%4 == 1 {
					from = versions[int(calls[1])%len(versions)]
				}
				var next list
				x, next, gone, _ = applied(t, x, m, from, l)
				versions, l = append(versions, next), nil
			case 2:
				x = freed(t, x, m, gone)
			case 3:
				x = freed(t, x, m, Gone{[]uint64{of(int(calls[1]), 1)}, []uint64{of(int(calls[2]), 1)}})
			}
		}
		for _, v := range versions {
			seen(t, x, m, v)
		}
	})
}
