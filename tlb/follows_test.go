package tlb_test

import (
	"math/rand"
	"slices"
	"testing"

	"citadel/api"
)

// kinds of what is done to a TLB.
const (
	put = iota
	evict
	flush
	flushPage
	flushAll
	kinds
)

// deed is something that is done to a TLB; of an Evict i is the entry's number, else e tells the Vmid, and the Page.
type deed struct {
	kind int
	e    api.Trans
	i    int
}

// chapter is the chapter read out word by word: what a TLB must hold. Each deed makes a new list.
type chapter struct {
	room    int
	entries []api.Trans
}

// same tells whether two entries are of one Vmid and Page.
func same(a, b api.Trans) bool { return a.Vmid == b.Vmid && a.Page == b.Page }

// do does a deed, and tells what an Evict answers.
func (c *chapter) do(d deed) bool {
	var next []api.Trans
	for i, e := range c.entries {
		goes := false
		switch d.kind {
		case put, flushPage:
			goes = same(e, d.e)
		case evict:
			goes = i == d.i
		case flush:
			goes = e.Vmid == d.e.Vmid
		case flushAll:
			goes = true
		}
		if !goes {
			next = append(next, e)
		}
	}
	if d.kind == put {
		if len(next) == c.room {
			next = next[1:]
		}
		next = append(next, d.e)
	}
	took := len(next) < len(c.entries)
	c.entries = next
	return d.kind == evict && took
}

// do does a deed to the TLB, and tells what an Evict answers.
func (w world) do(d deed) bool {
	switch d.kind {
	case put:
		w.Put(d.e)
	case evict:
		return w.Evict(d.i)
	case flush:
		w.Flush(d.e.Vmid)
	case flushPage:
		w.FlushPage(d.e.Vmid, d.e.Page)
	case flushAll:
		w.FlushAll()
	}
	return false
}

// step does a deed to both, and fails if they differ behind it.
func (w world) step(c *chapter, d deed) {
	w.t.Helper()
	if got, want := w.do(d), c.do(d); got != want {
		w.t.Fatalf("P5.2: %+v answers %v", d, got)
	}
	if got := w.Entries(); !slices.Equal(got, c.entries) {
		w.t.Fatalf("P5.1, P5.2: behind %+v Entries = %v, not %v", d, got, c.entries)
	}
}

// small are all deeds over two VMIDs with two pages each.
func small() []deed {
	ds := []deed{{kind: flushAll}, {kind: flush, e: api.Trans{Vmid: 3}}}
	for i := -1; i <= 3; i++ {
		ds = append(ds, deed{kind: evict, i: i})
	}
	for vmid := 1; vmid <= 2; vmid++ {
		ds = append(ds, deed{kind: flush, e: api.Trans{Vmid: vmid}})
		for page := range uint64(2) {
			e := api.Trans{Vmid: vmid, Page: page}
			ds = append(ds, deed{kind: put, e: e}, deed{kind: flushPage, e: e})
		}
	}
	return ds
}

// P5.1, P5.2: all that can be done in three deeds behind each filling of a small TLB.
func TestAllDeeds(t *testing.T) {
	ds := small()
	for room := 1; room <= 3; room++ {
		for fill := range 4 {
			for n := range len(ds) * len(ds) * len(ds) {
				w, c := newWorld(t, room), &chapter{room: room}
				for i, e := range mixed(fill) {
					w.step(c, deed{kind: put, e: api.Trans{Vmid: 1 + i%2, Page: e.Page, Frame: 50}})
				}
				for i, rest := 0, n; i < 3; i, rest = i+1, rest/len(ds) {
					d := ds[rest%len(ds)]
					d.e.Frame, d.e.Perm = uint64(i), i
					w.step(c, d)
				}
			}
		}
	}
}

// life is what was done to a TLB, in its order.
type life []deed

// known is what Look must tell by the promise: what was put last of that Vmid and Page, if nothing that flushes it came since.
func (l life) known(vmid int, page uint64) (api.Trans, bool) {
	for i := len(l) - 1; i >= 0; i-- {
		d := l[i]
		of := d.e.Vmid == vmid && d.e.Page == page
		switch {
		case d.kind == put && of:
			return d.e, true
		case d.kind == flushAll, d.kind == flush && d.e.Vmid == vmid, d.kind == flushPage && of:
			return api.Trans{}, false
		}
	}
	return api.Trans{}, false
}

// anyDeed is some deed; those that take much are seldom.
func anyDeed(r *rand.Rand, room int) deed {
	d := deed{e: api.Trans{Vmid: r.Intn(5) - 1, Page: uint64(r.Intn(room + 2)), Frame: r.Uint64(), Perm: r.Int()}}
	switch n := r.Intn(100); {
	case n < 70:
		d.kind = put
	case n < 85:
		d.kind, d.i = evict, r.Intn(room+4)-2
	case n < 95:
		d.kind = flushPage
	case n < 99:
		d.kind = flush
	default:
		d.kind = flushAll
	}
	return d
}

// P5.3: at most room entries, none of the same Vmid and Page twice; and each is told by Look.
func (w world) holds(room int) {
	w.t.Helper()
	all := w.Entries()
	if len(all) > room {
		w.t.Fatalf("P5.3: %d entries in a room of %d", len(all), room)
	}
	for i, e := range all {
		w.finds("P5.1", e)
		for _, f := range all[:i] {
			if same(e, f) {
				w.t.Fatalf("P5.3: %v and %v are of one page", e, f)
			}
		}
	}
}

// P5.3: what Look tells was put last, and nothing that flushes it came since.
func (w world) tellsTheLast(l life, room int) {
	w.t.Helper()
	for vmid := -1; vmid < 4; vmid++ {
		for page := range uint64(room + 2) {
			got, ok := w.Look(vmid, page)
			want, known := l.known(vmid, page)
			if ok && (!known || got != want) || !ok && got != (api.Trans{}) {
				w.t.Fatalf("P5.3: Look(%d, %d) = %v, %v, and what was put last is %v, %v", vmid, page, got, ok, want, known)
			}
		}
	}
}

// P5.1 to P5.3: long lives in any room.
func TestLongLives(t *testing.T) {
	var done [kinds]int
	full, missed := 0, 0
	for seed := range int64(60) {
		r := rand.New(rand.NewSource(seed))
		room := []int{1, 2, 3, 5, 16, api.MaxTLB}[seed%6]
		w, c, l := newWorld(t, room), &chapter{room: room}, life{}
		for range 300 {
			d := anyDeed(r, room)
			was := w.Entries()
			w.step(c, d)
			l = append(l, d)
			w.holds(room)
			w.tellsTheLast(l, room)
			if d.kind == flush {
				w.has("P5.3", left(was, func(e api.Trans) bool { return e.Vmid == d.e.Vmid })...)
			}
			done[d.kind]++
			if len(c.entries) == room {
				full++
			}
			if len(c.entries) == len(was) && d.kind != put {
				missed++
			}
		}
	}
	for kind, n := range done {
		if n < 50 {
			t.Errorf("deeds of kind %d: %d", kind, n)
		}
	}
	if full < 1000 || missed < 100 {
		t.Errorf("full %d, without effect %d", full, missed)
	}
}
