package stage_test

import (
	"bytes"
	"math/rand"
	"slices"
	"testing"

	"citadel/api"
	"citadel/stage"
)

// pair is a space, and what the chapter says of it.
type pair struct {
	s *stage.Space
	c *chapter
}

// life is a world with some spaces, what stands in its memory where no table of a living space is, and counts of what was answered.
type life struct {
	*world
	r       *rand.Rand
	pairs   []pair
	bytes   []byte
	answers map[string]map[api.Errno]int
	taken   map[string]map[bool]int
}

// reserved frames of a life are mapped and written; no table is ever there.
const reserved = 4

func newLife(t *testing.T, seed int64) *life {
	r := rand.New(rand.NewSource(seed))
	l := &life{world: newWorld(t, bases[r.Intn(len(bases))], reserved+4+r.Intn(14), reserved), r: r, answers: map[string]map[api.Errno]int{}, taken: map[string]map[bool]int{}}
	l.bytes = l.all()
	return l
}

// answered counts an answer, and fails if it is not the chapter's.
func (l *life) answered(what string, got, want api.Errno) {
	l.t.Helper()
	if got != want {
		l.t.Fatalf("P10.2, P10.3: %s answers %d, not %d", what, got, want)
	}
	if l.answers[what] == nil {
		l.answers[what] = map[api.Errno]int{}
	}
	l.answers[what][got]++
}

// counted counts whether something was taken.
func (l *life) counted(what string, ok bool) {
	if l.taken[what] == nil {
		l.taken[what] = map[bool]int{}
	}
	l.taken[what][ok]++
}

// anyPage is some page: mostly one of a few that share tables, seldom none.
func (l *life) anyPage() uint64 {
	if l.r.Intn(25) == 0 {
		return notPages[l.r.Intn(len(notPages))]
	}
	return []uint64{0, 1 << 9, 1 << 18, 1<<27 - 512}[l.r.Intn(4)] + []uint64{0, 1, 2, 511}[l.r.Intn(4)]
}

// anyPerm is some rights, seldom none.
func (l *life) anyPerm() int {
	if l.r.Intn(15) == 0 {
		return notPerms()[l.r.Intn(len(notPerms()))]
	}
	return perms[l.r.Intn(len(perms))]
}

// anyFrame is a reserved frame, seldom none.
func (l *life) anyFrame() int {
	if l.r.Intn(20) == 0 {
		none := notFrames(l.m.Frames())
		return none[l.r.Intn(len(none))]
	}
	return l.r.Intn(reserved)
}

// begins makes a space.
func (l *life) begins() {
	l.t.Helper()
	vmid := l.r.Intn(api.MaxVmid+3) - 1
	free := l.free()
	s, e := stage.New(l.m, l.p, vmid)
	c, want := begin(l.m.Base(), l.m.Frames(), vmid, free)
	l.answered("New", e, want)
	if (s == nil) != (c == nil) {
		l.t.Fatalf("P10.2: New(%d) = %v", vmid, s)
	}
	if s != nil {
		l.pairs = append(l.pairs, pair{s, c})
	}
}

// ends destroys a space: its tables keep their bytes, but the root, till they are free.
func (l *life) ends(i int) {
	l.t.Helper()
	p := l.pairs[i]
	if told := p.s.Destroy(); !slices.Equal(told, p.c.tables) {
		l.t.Fatalf("P10.3: Destroy tells %v, not %v", told, p.c.tables)
	}
	l.counted("Destroy", true)
	p.c.lay(l.bytes)
	root := p.c.tables[0]
	clear(l.bytes[root*size : (root+1)*size])
	for _, f := range p.c.tables {
		if l.p.Owner(f) != api.Limbo {
			l.t.Fatalf("P10.3: frame %d, a table's, has %d", f, l.p.Owner(f))
		}
	}
	l.pairs = slices.Delete(l.pairs, i, i+1)
}

// moves has frames taken, released and acknowledged by others; one that is free is sometimes written.
func (l *life) moves() {
	switch l.r.Intn(5) {
	case 0:
		l.p.Take(1 + l.r.Intn(api.MaxGuests))
	case 1:
		for f := range l.m.Frames() {
			if l.p.Owner(f) > 0 && l.r.Intn(2) == 0 {
				l.p.Release(f)
			}
		}
	case 2:
		if free := l.free(); len(free) > 0 {
			at := free[l.r.Intn(len(free))]*size + l.r.Intn(size)
			l.bytes[at] = 77
			l.m.Write(l.m.Base()+uint64(at), 1, 77)
		}
	default:
		was := l.shot().owners
		l.p.Ack(0)
		l.p.Ack(1)
		l.p.AckDevices()
		for f, owner := range was {
			if owner == api.Limbo {
				clear(l.bytes[f*size : (f+1)*size])
			}
		}
	}
}

// place is where the byte of a guest's at an address is in the memory, by the chapter.
func (p pair) place(addr uint64) (int, int, bool) {
	x, ok := p.c.pages[addr/size]
	return x.Frame*size + int(addr%size), x.Perm, ok
}

// uses reads and writes a number of a guest's, and asks for bytes.
func (l *life) uses(p pair) {
	l.t.Helper()
	number := l.anyPage()
	if all := p.c.all(); len(all) > 0 && l.r.Intn(4) > 0 {
		number = all[l.r.Intn(len(all))].Page
	}
	addr := number*size + []uint64{0, 1, 100, size - 8, size - 7, size - 4, size - 3, size - 1}[l.r.Intn(8)]
	n := []int{1, 2, 4, 8, 1, 2, 4, 8, 3, 0}[l.r.Intn(10)]
	var old uint64
	has, may := true, true
	for i := range n {
		at, perm, ok := p.place(addr + uint64(i))
		has, may = has && ok, may && ok && perm&api.PteW != 0
		if ok {
			old |= uint64(l.bytes[at]) << (8 * i)
		}
	}
	l.counted("two pages", has && addr%size+uint64(n) > size)
	if got := p.s.Has(addr, n); got != has {
		l.t.Fatalf("P10.4: Has(%#x, %d) = %v", addr, n, got)
	}
	l.counted("Has", has)
	width := n != 3 && n != 0
	if !has || !width {
		old = 0
	}
	if v, ok := p.s.Read(addr, n); v != old || ok != (has && width) {
		l.t.Fatalf("P10.4: Read(%#x, %d) = %#x, %v, not %#x, %v", addr, n, v, ok, old, has && width)
	}
	v := l.r.Uint64()
	if ok := p.s.Write(addr, n, v); ok != (may && width) {
		l.t.Fatalf("P10.4: Write(%#x, %d) = %v", addr, n, ok)
	}
	l.counted("Write", may && width)
	if !may || !width {
		return
	}
	for i := range n {
		at, _, _ := p.place(addr + uint64(i))
		l.bytes[at] = byte(v >> (8 * i))
	}
}

// turns maps, unmaps or protects a page of a space.
func (l *life) turns(p pair) {
	l.t.Helper()
	x := api.Page{Page: l.anyPage(), Frame: l.anyFrame(), Perm: l.anyPerm()}
	switch l.r.Intn(4) {
	default:
		free := l.free()
		l.answered("Map", p.s.Map(x.Page, x.Frame, x.Perm), p.c.mapped(x, free))
	case 2:
		want, wants := p.c.unmapped(x.Page)
		f, e := p.s.Unmap(x.Page)
		l.answered("Unmap", e, wants)
		if f != want {
			l.t.Fatalf("P10.3: Unmap(%#x) = %d, not %d", x.Page, f, want)
		}
	case 3:
		l.answered("Protect", p.s.Protect(x.Page, x.Perm), p.c.protected(x.Page, x.Perm))
	}
}

// agrees fails if anything is otherwise than the chapter says: each space, and every byte of the memory.
func (l *life) agrees() {
	l.t.Helper()
	for _, p := range l.pairs {
		if p.s.Root() != l.number(p.c.tables[0]) || p.s.Vmid() != p.c.vmid {
			l.t.Fatalf("P10.2: Root = %#x, Vmid = %d", p.s.Root(), p.s.Vmid())
		}
		l.has(p.s, p.c.tables...)
		l.tells(p.s, p.c.all()...)
		p.c.lay(l.bytes)
	}
	if !bytes.Equal(l.all(), l.bytes) {
		l.t.Fatal("P10.3, P10.4: the memory has other bytes")
	}
}

// step does one thing, whatever comes.
func (l *life) step() {
	l.t.Helper()
	switch n := l.r.Intn(100); {
	case n < 4 || len(l.pairs) == 0:
		l.begins()
	case n < 7:
		l.ends(l.r.Intn(len(l.pairs)))
	case n < 20:
		l.moves()
	case n < 50:
		l.uses(l.pairs[l.r.Intn(len(l.pairs))])
	default:
		l.turns(l.pairs[l.r.Intn(len(l.pairs))])
	}
}

// P10.2 to P10.4, P10.6: long lives of several spaces over one pool, held against the chapter: all that is told, the owners of tables, page.Guest, and every byte.
func TestLongLives(t *testing.T) {
	answers, taken := map[string]map[api.Errno]int{}, map[string]map[bool]int{}
	for seed := range int64(80) {
		l := newLife(t, seed)
		l.answers, l.taken = answers, taken
		for range 250 {
			l.step()
			l.agrees()
		}
	}
	for what, list := range map[string][]api.Errno{
		"New":     {api.OK, api.ErrArg, api.ErrFrames},
		"Map":     {api.OK, api.ErrArg, api.ErrMapped, api.ErrFrames},
		"Unmap":   {api.OK, api.ErrNotMap},
		"Protect": {api.OK, api.ErrArg, api.ErrNotMap},
	} {
		for _, e := range list {
			if answers[what][e] < 50 {
				t.Errorf("%s answered %d only %d times", what, e, answers[what][e])
			}
		}
	}
	for _, what := range []string{"Has", "Write"} {
		if taken[what][true] < 200 || taken[what][false] < 200 {
			t.Errorf("%s was taken and refused only so often: %v", what, taken[what])
		}
	}
	if taken["Destroy"][true] < 200 || taken["two pages"][true] < 30 {
		t.Errorf("only %d spaces were destroyed, only %d numbers in two pages", taken["Destroy"][true], taken["two pages"][true])
	}
}

// P10.3: all that can be done in four deeds to three pages, with so many free frames.
func TestAllDeeds(t *testing.T) {
	deeds := []func(*life, pair){}
	for _, number := range []uint64{5, 6, 512} {
		deeds = append(deeds, func(l *life, p pair) {
			x := api.Page{Page: number, Frame: int(number % 3), Perm: rw}
			free := l.free()
			l.answered("Map", p.s.Map(x.Page, x.Frame, x.Perm), p.c.mapped(x, free))
		}, func(l *life, p pair) {
			want, wants := p.c.unmapped(number)
			f, e := p.s.Unmap(number)
			l.answered("Unmap", e, wants)
			if f != want {
				l.t.Fatalf("P10.3: Unmap(%d) = %d, not %d", number, f, want)
			}
		}, func(l *life, p pair) {
			l.answered("Protect", p.s.Protect(number, rx), p.c.protected(number, rx))
		})
	}
	n := len(deeds)
	for free := range 4 {
		for rest := range n * n * n * n {
			l := &life{world: newWorld(t, size, reserved+1+free, reserved), answers: map[string]map[api.Errno]int{}}
			s := l.space(1)
			c, _ := begin(size, l.m.Frames(), 1, []int{reserved})
			for range 4 {
				deeds[rest%n](l, pair{s, c})
				rest /= n
			}
			if !slices.Equal(s.Pages(), c.all()) || !slices.Equal(s.Tables(), c.tables) {
				t.Fatalf("P10.3: pages %v, not %v, tables %v, not %v", s.Pages(), c.all(), s.Tables(), c.tables)
			}
		}
	}
}
