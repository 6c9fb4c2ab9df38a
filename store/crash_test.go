package store_test

import (
	"math"
	"math/rand"
	"slices"
	"strconv"
	"strings"
	"testing"

	"matins/api"
	"matins/raft"
	"matins/trail"
)

// steps are a script whose crashes are tried at each place. No Term falls below what the log has.
func steps() []func(*desk) {
	write := func(r api.Raft) func(*desk) { return func(x *desk) { x.write(r) } }
	late := func(r api.Raft, term int64, vote int) api.Raft {
		r.Term, r.Vote = term, vote
		return r
	}
	return []func(*desk){
		write(node()),
		write(with(node(), 3, 1)),
		write(with(node(), 4, 0, 1, 3)),
		(*desk).sync,
		write(with(node(), 9, 2, 1, 4, 4)),
		write(log(0, 0, "", "1a")),
		write(log(0, 0, "", "1a 2b 9c 9d")),
		func(x *desk) { x.pack() },
		write(log(2, 2, "snap", "9c 9d 9e")),
		write(log(2, 2, "other", "9c 9d 9e")),
		(*desk).sync,
		write(late(log(5, 9, strings.Repeat("s", 200), ""), 10, 3)),
		write(late(log(5, 9, "t", "9x"), 10, 3)),
		func(x *desk) { x.pack() },
		(*desk).sync,
		write(late(log(9, 8, "bundle", ""), 11, 0)),
		write(late(log(9, 8, "bundle", "9y 9z"), 11, 0)),
		write(late(log(9, 8, "bundle", ""), 12, 1)),
		write(late(log(0, 0, "", "1a 2b"), 12, 1)),
		(*desk).sync,
		write(late(log(0, 0, "", "1b 2b"), 12, 2)),
		func(x *desk) { x.pack() },
	}
}

func played(t testing.TB, n int) *desk {
	t.Helper()
	x := newDesk(t, 1, three, files{"other": "bytes"})
	for _, step := range steps()[:n] {
		step(x)
	}
	return x
}

// crashes goes through the crashes that a disk with so many writes that wait can tell apart, each of at most size bytes.
func crashes(waits, size int) func(func(int, int) bool) {
	return func(yield func(int, int) bool) {
		for keep := -1; keep <= waits+1; keep++ {
			for torn := -1; torn <= size; torn++ {
				if !yield(keep, torn) {
					return
				}
			}
		}
	}
}

func longest(recs []string) int {
	size := 0
	for _, rec := range recs {
		size = max(size, len(frame(rec)))
	}
	return size
}

func TestCrashAtEachPlace(t *testing.T) {
	for n := range len(steps()) + 1 {
		plain := played(t, n)
		waited := plain.recs[plain.synced:]
		for keep, torn := range crashes(len(waited), min(longest(waited), 40)+1) {
			x := played(t, n)
			if !x.crash(keep, torn) {
				t.Fatalf("P15.3: behind step %d, Crash(%d, %d): the records don't fit", n, keep, torn)
			}
			if len(waited) > 0 && keep >= len(waited) {
				wantNode(t, "P15.3: all that was written is kept", x.kept, plain.kept)
			}
			behind := x.kept
			x.write(with(x.kept, 20, 1, 20))
			x.crash(0, 0)
			wantNode(t, "P15.3: nothing of what was written is kept", x.kept, behind)
			x.write(with(x.kept, 20, 1, 20))
			x.sync()
			x.crash(0, 0)
			wantNode(t, "P15.3: what was synced", x.kept, with(behind, 20, 1, 20))
		}
	}
	for _, keep := range []int{math.MinInt, -5, 0, 1, math.MaxInt} {
		for _, torn := range []int{math.MinInt, -5, 0, 1, math.MaxInt} {
			for n := range len(steps()) + 1 {
				played(t, n).crash(keep, torn)
			}
		}
	}
}

// A store that a crash tore is written to, torn by another crash, and opened again.
func TestCrashBehindCrash(t *testing.T) {
	for first, a := range crashes(3, 9) {
		for second, b := range crashes(3, 9) {
			x := deskOf(t)
			x.write(log(0, 0, "", "1a 2b"))
			x.crash(first, a)
			x.write(log(1, 1, "s", "9x"))
			x.crash(second, b)
			x.crash(first, a)
			x.write(log(0, 0, "", "1a"))
			x.pack()
			x.write(log(0, 0, "t", "1b"))
			x.crash(second, a)
			x.write(log(4, 4, "", ""))
			x.crash(first, b)
			if t.Failed() {
				return
			}
		}
	}
}

// The longest record is torn at places of its own.
func TestCrashInALongRecord(t *testing.T) {
	snap := strings.Repeat("s", api.MaxSnap)
	whole := len(frame(recBase(5, 4, snap)))
	for _, torn := range []int{0, 1, 2, 3, 4, 10, 11, 127, 128, 30000, whole - 5, whole - 4, whole - 1, whole, whole + 1} {
		for keep := range 4 {
			x := deskOf(t)
			x.write(log(0, 0, "", "1a"))
			x.sync()
			x.write(log(5, 4, snap, "4b"))
			if !x.crash(keep, torn) {
				t.Errorf("P15.3: Crash(%d, %d): the records don't fit", keep, torn)
			}
			if gone := keep == 0 && torn < whole; gone != (x.kept.Snap == "") {
				t.Errorf("P15.3: Crash(%d, %d): %s", keep, torn, toldNode(x.kept))
			}
		}
	}
}

// someEntries is entries by chance, of terms that follow one and aren't above another.
func someEntries(c *rand.Rand, low, high int64, most int) []api.Entry {
	var list []api.Entry
	for range c.Intn(most + 1) {
		low = max(1, low) + int64(c.Intn(4)/3)
		if low > high {
			break
		}
		list = append(list, api.Entry{Term: low, Data: strings.Repeat(string(rune('a'+c.Intn(3))), c.Intn(4))})
	}
	return list
}

// laterLog changes a right log by chance as nodes do, and as they don't.
func laterLog(c *rand.Rand, r *api.Raft) {
	t := &r.Trail
	n := c.Intn(len(t.Entries) + 1)
	ahead := t.BaseTerm
	if n > 0 {
		ahead = t.Entries[n-1].Term
	}
	snap := "s" + strconv.Itoa(c.Intn(3))
	switch c.Intn(8) {
	case 0, 1, 2: // more, fewer or others from a place on
		t.Entries = append(slices.Clone(t.Entries[:n]), someEntries(c, ahead, r.Term, 4)...)
	case 3: // a few more
		_, last := trail.Last(*t)
		t.Entries = append(slices.Clone(t.Entries), someEntries(c, last, r.Term, 3)...)
	case 4: // cut
		*t = api.Trail{Base: t.Base + int64(n), BaseTerm: ahead, Entries: slices.Clone(t.Entries[n:])}
		r.Snap = snap
	case 5: // replaced
		base := max(0, lastOf(*t)+int64(c.Intn(9)-5))
		baseTerm := int64(0)
		if base > 0 {
			baseTerm = c.Int63n(min(r.Term, 9) + 1)
		}
		*t = api.Trail{Base: base, BaseTerm: baseTerm, Entries: someEntries(c, baseTerm, r.Term, 3)}
		r.Snap = snap
	case 6:
		r.Snap = snap
	}
}

// later is a right node by chance that comes behind another; its Term falls now and then, if it may.
func later(c *rand.Rand, r api.Raft, falls bool) api.Raft {
	r = raft.Restart(r)
	nodes := append([]int{0}, r.Conf...)
	switch c.Intn(6) {
	case 0:
		r.Term++
		r.Vote = 0
	case 1:
		r.Vote = nodes[c.Intn(len(nodes))]
	case 2:
		r.Term += int64(c.Intn(3))
		r.Vote = nodes[c.Intn(len(nodes))]
	}
	laterLog(c, &r)
	if falls && c.Intn(8) == 0 {
		r.Term = max(0, r.Term-int64(c.Intn(4)))
		for !raft.Check(raft.Restart(r)) {
			if len(r.Trail.Entries) == 0 {
				r.Trail = api.Trail{}
				break
			}
			r.Trail.Entries = r.Trail.Entries[:len(r.Trail.Entries)-1]
		}
	}
	r.Commit = r.Trail.Base + int64(c.Intn(len(r.Trail.Entries)+1))
	r.Left, r.Wait, r.Leader = c.Intn(101), 10+c.Intn(10), nodes[c.Intn(len(nodes))]
	if c.Intn(4) == 0 {
		r.Role, r.Vote, r.Leader = api.Leader, r.Id, r.Id
		r.Next, r.Match = slices.Repeat([]int64{lastOf(r.Trail) + 1}, len(r.Conf)), make([]int64, len(r.Conf))
	}
	return r
}

// step does one thing by chance; it tells whether the log can be opened still.
func (x *desk) step(c *rand.Rand, falls bool) bool {
	x.t.Helper()
	switch c.Intn(12) {
	case 0, 1:
		x.sync()
	case 2:
		x.pack()
	case 3, 4:
		return x.crash(c.Intn(8)-1, c.Intn(16)-1)
	case 5:
		x.write(x.kept)
	case 6:
		wrong := later(c, x.kept, falls)
		switch c.Intn(4) {
		case 0:
			wrong.Id = x.conf[0] + x.conf[len(x.conf)-1] - wrong.Id
		case 1:
			wrong.Conf = append(slices.Clone(wrong.Conf), 99)
		case 2:
			wrong.Term = -1
		case 3:
			wrong.Trail.BaseTerm = wrong.Term + 1
		}
		x.write(wrong)
	default:
		r := later(c, x.kept, falls)
		if !raft.Check(r) {
			x.t.Fatalf("by chance: %s isn't right", toldNode(r))
		}
		x.write(r)
	}
	return true
}

// Scripts of nodes, writings, syncs, packings and crashes, where no Term falls: each crash leaves what can be opened.
func TestByChance(t *testing.T) {
	for seed := range int64(500) {
		c := rand.New(rand.NewSource(seed))
		conf := [][]int{{4}, {1, 2}, three, {2, 5, 90}, {1, 2, 3, 4, 5}}[seed%5]
		x := newDesk(t, conf[c.Intn(len(conf))], conf, files{"other": "bytes"})
		for range 80 {
			if !x.step(c, false) {
				t.Errorf("P15.3: seed %d: what is left doesn't fit: %s", seed, toldRecs(x.recs))
			}
			if t.Failed() {
				return
			}
		}
	}
}

// The same with Terms that fall: what a crash leaves may fit no more, by the paper as by the store.
func TestByChanceWithTermsThatFall(t *testing.T) {
	refused := 0
	for seed := range int64(500) {
		c := rand.New(rand.NewSource(seed))
		x := newDesk(t, 2, three, nil)
		for range 80 {
			if !x.step(c, true) {
				refused++
				break
			}
			if t.Failed() {
				return
			}
		}
	}
	if refused < 20 || refused > 480 {
		t.Errorf("%d of 500 scripts ended with a log that can't be opened", refused)
	}
}

// atWork is nodes that agree, each with a desk, and what is on the way between them.
type atWork struct {
	c      *rand.Rand
	desks  []*desk
	nodes  []api.Raft
	flight []api.Message
}

func (w *atWork) call(i int) (api.Raft, []api.Message) {
	r, c := w.nodes[i], w.c
	switch n := c.Intn(20); {
	case n < 4:
		return raft.Tick(r, c.Intn(10))
	case n < 8:
		r, sent, _, _ := raft.Propose(r, "p"+strconv.Itoa(c.Intn(9)))
		return r, sent
	case n == 8:
		r, _ = raft.Compact(r, r.Commit, "c"+strconv.FormatInt(r.Commit, 10))
		return r, nil
	}
	at := slices.IndexFunc(w.flight, func(m api.Message) bool { return m.To == r.Id })
	if at < 0 {
		return r, nil
	}
	m := w.flight[at]
	w.flight = slices.Delete(w.flight, at, at+1)
	return raft.Handle(r, m)
}

// Nodes at work: what one writes and syncs ahead of sending it has when it is opened again, and no crash leaves what can't be opened.
func TestNodesAtWork(t *testing.T) {
	entries, snaps := 0, 0
	for seed := range int64(40) {
		w := &atWork{c: rand.New(rand.NewSource(seed))}
		for _, id := range three {
			w.desks = append(w.desks, newDesk(t, id, three, nil))
			w.nodes = append(w.nodes, fresh(id, three))
		}
		for range 600 {
			i := w.c.Intn(3)
			x, before := w.desks[i], raft.Restart(w.nodes[i])
			r, sent := w.call(i)
			x.write(r)
			if w.c.Intn(40) == 0 {
				if !x.crash(w.c.Intn(4), w.c.Intn(12)) || x.kept.Term < before.Term || lastOf(x.kept.Trail) < before.Trail.Base {
					t.Errorf("P15.3: seed %d: of %s is left %s", seed, toldNode(r), toldNode(x.kept))
				}
				w.nodes[i] = x.kept
				continue
			}
			x.sync()
			w.nodes[i], w.flight = r, append(w.flight, sent...)
			if w.c.Intn(30) == 0 {
				x.crash(0, 0)
				wantNode(t, "P15.3: what was synced", x.kept, raft.Restart(r))
				w.nodes[i] = x.kept
			}
			if x.s.Count() > 30 {
				x.pack()
			}
			if t.Failed() {
				return
			}
		}
		for _, r := range w.nodes {
			entries += len(r.Trail.Entries)
			snaps += len(r.Snap)
		}
	}
	if entries < 100 || snaps < 100 {
		t.Errorf("the nodes came to %d entries and %d bytes of Snaps", entries, snaps)
	}
}

// Disks that have room for little beside the log.
func TestByChanceWhereRoomIsScarce(t *testing.T) {
	full := 0
	for seed := range int64(60) {
		c := rand.New(rand.NewSource(seed))
		x := newDesk(t, 1, three, files{"filler": strings.Repeat("f", api.MaxDisk-c.Intn(300)-40)})
		for range 40 {
			switch c.Intn(6) {
			case 0:
				x.sync()
			case 1:
				x.pack()
			default:
				x.write(later(c, x.kept, false))
			}
			if x.broken {
				full++
				break
			}
		}
		x.d.Remove("filler")
		x.others = nil
		if !x.crash(c.Intn(6), c.Intn(12)) {
			t.Errorf("P15.3: seed %d: what is left doesn't fit", seed)
		}
		x.write(later(c, x.kept, false))
		x.sync()
		x.crash(0, 0)
		if t.Failed() {
			return
		}
	}
	if full < 20 {
		t.Errorf("only %d of 60 disks were full", full)
	}
}

// someRecord is a record by chance to what is kept, mostly one that fits or nearly does.
func someRecord(c *rand.Rand, k api.Raft) string {
	near := func(n int64) int64 { return max(0, n+int64(c.Intn(5)-2)) }
	last := lastOf(k.Trail)
	term := k.Trail.BaseTerm
	if len(k.Trail.Entries) > 0 {
		term = k.Trail.Entries[c.Intn(len(k.Trail.Entries))].Term
	}
	text := strings.Repeat("x", c.Intn(3))
	n := k.Trail.Base + int64(c.Intn(len(k.Trail.Entries)+1))
	if c.Intn(3) == 0 {
		n = near([]int64{k.Trail.Base, last}[c.Intn(2)])
	}
	switch c.Intn(16) {
	case 0, 1, 2:
		return recVote(max(0, k.Term+int64(c.Intn(6)-2)), c.Intn(5)%4)
	case 3, 4, 5, 6, 7:
		return recEntry(n+int64(c.Intn(2)), min(near(term), k.Term+1), text)
	case 8, 9:
		return recEntry(last+1, k.Term, text)
	case 10, 11:
		if e, ok := entryAt(k.Trail, n); ok {
			return recBase(n, e.Term, text)
		}
		return recBase(n, near(term), text)
	case 12, 13, 14:
		return recEnd(n)
	}
	rec := []byte(recEntry(n+1, term, text))
	switch c.Intn(3) {
	case 0:
		rec[c.Intn(len(rec))] ^= 1 << c.Intn(8)
	case 1:
		rec = rec[:c.Intn(len(rec))]
	case 2:
		rec = append(rec, byte(c.Intn(256)))
	}
	return string(rec)
}

// Logs of records by chance, held against the paper.
func TestOpenByChance(t *testing.T) {
	c := rand.New(rand.NewSource(1))
	fit, unfit := map[byte]int{}, 0
	for range 30000 {
		var recs []string
		k, ok := fresh(1, three), true
		for range c.Intn(25) {
			rec := someRecord(c, k)
			recs = append(recs, rec)
			before := deepCopy(k)
			if k, ok = paperTake(k, rec); !ok {
				if c.Intn(3) == 0 {
					break
				}
				k, ok, recs = before, true, recs[:len(recs)-1]
				continue
			}
			fit[rec[0]]++
		}
		if !ok {
			unfit++
			recs = append(recs, recVote(k.Term, 0))
		}
		x := &desk{t: t, d: diskOf(t, files{"log-1": laid(recs...)}), id: 1, conf: three, number: 1, laid: len(recs), synced: len(recs), recs: recs}
		if x.open() {
			x.write(later(c, x.kept, false))
			x.pack()
		}
		if t.Failed() {
			return
		}
	}
	if unfit < 1000 || fit[1] < 1000 || fit[2] < 1000 || fit[3] < 1000 || fit[4] < 1000 {
		t.Errorf("%v fit, %d don't", fit, unfit)
	}
}
