package store_test

import (
	"fmt"
	"maps"
	"slices"
	"strconv"
	"strings"
	"testing"

	"matins/api"
	"matins/disk"
	"matins/raft"
	"matins/store"
)

// files are a disk's, by their names.
type files map[string]string

func filesOf(d *disk.Disk) files {
	fs := files{}
	for _, name := range d.Names() {
		b, _ := d.Read(name)
		fs[name] = string(b)
	}
	return fs
}

// diskOf is a disk with these files, synced.
func diskOf(t testing.TB, fs files) *disk.Disk {
	t.Helper()
	d := disk.New()
	for _, name := range slices.Sorted(maps.Keys(fs)) {
		if e := d.Append(name, []byte(fs[name])); e != api.OK {
			t.Fatalf("Append(%q): %d", name, e)
		}
		d.Sync(name)
	}
	return d
}

func (fs files) size() int {
	sum := 0
	for _, s := range fs {
		sum += len(s)
	}
	return sum
}

func (fs files) with(name, s string) files {
	more := maps.Clone(fs)
	if more == nil {
		more = files{}
	}
	more[name] = s
	return more
}

// besides are those of the files that others hasn't, or has with other bytes.
func (fs files) besides(others files) string {
	all := ""
	for _, name := range slices.Sorted(maps.Keys(fs)) {
		if s, there := others[name]; !there || s != fs[name] {
			all += fmt.Sprintf(" %s:%d bytes %.90x", name, len(fs[name]), fs[name])
		}
	}
	return all
}

func wantFiles(t testing.TB, what string, d *disk.Disk, want files) {
	t.Helper()
	if got := filesOf(d); !maps.Equal(got, want) {
		t.Errorf("%s: files:%s; want%s", what, got.besides(want), want.besides(got))
	}
}

// fill is these files and so many more.
func fill(fs files, count int) files {
	for i := range count {
		fs = fs.with("f"+strconv.Itoa(i), "")
	}
	return fs
}

// filler is these files and one that leaves so much room.
func filler(fs files, room int) files {
	return fs.with("filler", strings.Repeat("f", api.MaxDisk-fs.size()-room))
}

func wantErrno(t testing.TB, what string, got, want api.Errno) {
	t.Helper()
	if got != want {
		t.Errorf("%s: error %d, want %d", what, got, want)
	}
}

func brief(s string) string {
	if len(s) > 12 {
		return s[:12] + ".. of " + strconv.Itoa(len(s))
	}
	return s
}

func toldRecs(recs []string) string {
	all := strconv.Itoa(len(recs)) + " records"
	for _, rec := range recs[:min(len(recs), 20)] {
		all += fmt.Sprintf(" [% x]", brief(rec))
	}
	return all
}

func toldNode(r api.Raft) string {
	entries := ""
	for _, e := range r.Trail.Entries[:min(len(r.Trail.Entries), 12)] {
		entries += fmt.Sprintf(" %d%q", e.Term, brief(e.Data))
	}
	return fmt.Sprintf("[Id %d of %v, Term %d, Vote %d, Role %d, Leader %d, Trail %d %d, %d entries%s, Snap %q, Commit %d, Left %d, Wait %d, Votes %v, Next %v, Match %v]",
		r.Id, r.Conf, r.Term, r.Vote, r.Role, r.Leader, r.Trail.Base, r.Trail.BaseTerm, len(r.Trail.Entries), entries, brief(r.Snap), r.Commit, r.Left, r.Wait, r.Votes, r.Next, r.Match)
}

// sameNode holds all fields of two nodes against each other; nil and an empty list are the same.
func sameNode(a, b api.Raft) bool {
	return a.Id == b.Id && slices.Equal(a.Conf, b.Conf) && a.Term == b.Term && a.Vote == b.Vote && a.Role == b.Role && a.Leader == b.Leader &&
		a.Trail.Base == b.Trail.Base && a.Trail.BaseTerm == b.Trail.BaseTerm && slices.Equal(a.Trail.Entries, b.Trail.Entries) && a.Snap == b.Snap &&
		a.Commit == b.Commit && a.Left == b.Left && a.Wait == b.Wait && slices.Equal(a.Votes, b.Votes) && slices.Equal(a.Next, b.Next) && slices.Equal(a.Match, b.Match)
}

func wantNode(t testing.TB, what string, got, want api.Raft) {
	t.Helper()
	if !sameNode(got, want) {
		t.Errorf("%s:\n     %s,\nwant %s", what, toldNode(got), toldNode(want))
	}
}

const spare = 3 // places of spare room behind each list that is handed in

// roomy is a list in new memory with spare room that is filled with what is handed.
func roomy[T any](l []T, with T) []T {
	out := slices.Concat(l, slices.Repeat([]T{with}, spare))
	return out[:len(l)]
}

func room[T any](l []T) []T { return l[:cap(l)] }

func overwrite[T any](l []T, with T) {
	for i := range room(l) {
		room(l)[i] = with
	}
}

func lend(r api.Raft) api.Raft {
	r.Conf = roomy(r.Conf, -7)
	r.Trail.Entries = roomy(r.Trail.Entries, api.Entry{Term: -7, Data: "spare"})
	r.Votes = roomy(r.Votes, -7)
	r.Next = roomy(r.Next, -7)
	r.Match = roomy(r.Match, -7)
	return r
}

// sameRoom is sameNode, and the spare room of the lists that were lent too.
func sameRoom(a, b api.Raft) bool {
	return sameNode(a, b) && slices.Equal(room(a.Conf)[:len(a.Conf)+spare], room(b.Conf)[:len(b.Conf)+spare]) &&
		slices.Equal(room(a.Trail.Entries)[:len(a.Trail.Entries)+spare], room(b.Trail.Entries)[:len(b.Trail.Entries)+spare]) &&
		slices.Equal(room(a.Votes)[:len(a.Votes)+spare], room(b.Votes)[:len(b.Votes)+spare]) &&
		slices.Equal(room(a.Next)[:len(a.Next)+spare], room(b.Next)[:len(b.Next)+spare]) &&
		slices.Equal(room(a.Match)[:len(a.Match)+spare], room(b.Match)[:len(b.Match)+spare])
}

// spoil writes over all lists of a node, their spare room too: whoever shares memory with it shows that later.
func spoil(r api.Raft) {
	overwrite(r.Conf, 9999)
	overwrite(r.Trail.Entries, api.Entry{Term: 8888, Data: "spoilt"})
	overwrite(r.Votes, 9999)
	overwrite(r.Next, 9999)
	overwrite(r.Match, 9999)
}

// deepCopy is a node in memory of its own.
func deepCopy(r api.Raft) api.Raft {
	r.Conf = slices.Clone(r.Conf)
	r.Trail.Entries = slices.Clone(r.Trail.Entries)
	r.Votes = slices.Clone(r.Votes)
	r.Next = slices.Clone(r.Next)
	r.Match = slices.Clone(r.Match)
	return r
}

// openLent opens a store with lists that are looked at and written over behind the call, as is the node that is answered: what this function answers is a copy of it.
func openLent(t testing.TB, d *disk.Disk, id int, conf []int) (*store.Store, api.Raft, api.Errno) {
	t.Helper()
	lent := roomy(conf, -7)
	s, node, err := store.Open(d, id, lent)
	if !slices.Equal(room(lent)[:len(conf)+spare], slices.Concat(conf, []int{-7, -7, -7})) {
		t.Errorf("rule 5: Open changes Conf to %v", room(lent))
	}
	overwrite(lent, 9999)
	out := deepCopy(node)
	spoil(node)
	return s, out, err
}

func refuseOpen(t testing.TB, what string, d *disk.Disk, id int, conf []int, want api.Errno) {
	t.Helper()
	s, node, err := openLent(t, d, id, conf)
	if s != nil || err != want || !sameNode(node, api.Raft{}) {
		t.Errorf("P15.1: %s: Open: %v, %s, error %d, want none and %d", what, s, toldNode(node), err, want)
	}
}

// desk is a store on a disk, beside what it has by the paper.
type desk struct {
	t      testing.TB
	d      *disk.Disk
	s      *store.Store
	id     int
	conf   []int
	others files
	number int // of the log's file
	laid   int // how many records the log had when it was laid
	synced int
	recs   []string
	kept   api.Raft
	broken bool
}

// newDesk is a desk with an empty log, beside other files.
func newDesk(t testing.TB, id int, conf []int, others files) *desk {
	t.Helper()
	x := &desk{t: t, d: diskOf(t, others), id: id, conf: conf, others: others, number: 1}
	x.open()
	return x
}

// deskWith is a desk whose store was opened on a log with these records, and has what they make.
func deskWith(t testing.TB, id int, conf []int, recs ...string) *desk {
	t.Helper()
	x := &desk{t: t, d: diskOf(t, files{"log-1": laid(recs...)}), id: id, conf: conf, number: 1, laid: len(recs), synced: len(recs), recs: slices.Clone(recs)}
	x.open()
	return x
}

func deskOf(t testing.TB) *desk {
	t.Helper()
	return newDesk(t, 1, []int{1, 2, 3}, nil)
}

func (x *desk) file() string { return "log-" + strconv.Itoa(x.number) }

func (x *desk) bytes() string { return told(x.laid, x.recs...) }

func (x *desk) files() files { return x.others.with(x.file(), x.bytes()) }

func (x *desk) space() int { return api.MaxDisk - x.files().size() }

// open opens the store and tells whether the records fit by the paper. (The log isn't torn.)
func (x *desk) open() bool {
	x.t.Helper()
	want, fits := paperOpen(x.id, x.conf, x.recs)
	if !fits {
		refuseOpen(x.t, "records that don't fit: "+toldRecs(x.recs), x.d, x.id, x.conf, api.ErrBytes)
		return false
	}
	s, node, err := openLent(x.t, x.d, x.id, x.conf)
	if s == nil || err != api.OK {
		x.t.Fatalf("P15.1: Open with %s: error %d", toldRecs(x.recs), err)
	}
	wantNode(x.t, "P15.1: Open with "+toldRecs(x.recs), node, want)
	x.s, x.kept, x.broken = s, want, false
	x.look()
	return true
}

// look holds what can be seen of the store and its disk against the paper.
func (x *desk) look() {
	x.t.Helper()
	if got := x.s.Count(); got != len(x.recs) {
		x.t.Errorf("P15.2: Count: %d, want %d", got, len(x.recs))
	}
	if got := x.d.Waiting(); got != len(x.recs)-x.synced {
		x.t.Errorf("P15.2: %d writes wait, want %d", got, len(x.recs)-x.synced)
	}
	wantFiles(x.t, "P15.2", x.d, x.files())
}

// add puts records behind the log by the paper, and tells whether there was room for all.
func (x *desk) add(recs []string) bool {
	space := x.space()
	for _, rec := range recs {
		space -= len(frame(rec))
		if space < 0 {
			return false
		}
		x.recs = append(x.recs, rec)
	}
	return true
}

// write writes a node, and answers what the store does.
func (x *desk) write(r api.Raft) api.Errno {
	x.t.Helper()
	want := api.OK
	switch {
	case !raft.Check(r) || r.Id != x.id || !slices.Equal(r.Conf, x.conf):
		want = api.ErrState
	case x.broken:
		want = api.ErrFull
	case !x.add(paperWritten(x.kept, r)):
		want, x.broken = api.ErrFull, true
	default:
		x.kept = raft.Restart(r)
	}
	lent := lend(r)
	got := x.s.Write(lent)
	wantErrno(x.t, "P15.2: Write of "+toldNode(r), got, want)
	if !sameRoom(lent, lend(r)) {
		x.t.Errorf("rule 5: Write of %s changes it: %s", toldNode(r), toldNode(lent))
	}
	spoil(lent)
	x.look()
	return got
}

func (x *desk) sync() {
	x.t.Helper()
	want := api.ErrFull
	if !x.broken {
		want, x.synced = api.OK, len(x.recs)
	}
	wantErrno(x.t, "P15.2: Sync", x.s.Sync(), want)
	x.look()
}

// pack packs the store, and answers what the store does.
func (x *desk) pack() api.Errno {
	x.t.Helper()
	want := api.ErrFull
	recs := paperWritten(fresh(x.id, x.conf), x.kept)
	if !x.broken && len(laid(recs...)) <= x.space() && len(x.files()) < api.MaxFiles && x.number < 999999999 {
		want = api.OK
		x.number++
		x.recs, x.laid, x.synced = recs, len(recs), len(recs)
	}
	got := x.s.Pack()
	wantErrno(x.t, "P15.2: Pack", got, want)
	x.look()
	return got
}

// left is what a crash leaves by the paper: the records that are whole, and a piece of the next one.
func (x *desk) left(keep, torn int) ([]string, string) {
	waited := x.recs[x.synced:]
	keep = min(max(keep, 0), len(waited))
	recs := slices.Clone(x.recs[:x.synced+keep])
	if keep == len(waited) {
		return recs, ""
	}
	whole := frame(waited[keep])
	piece := whole[:min(max(torn, 0), len(whole))]
	if piece == whole {
		return append(recs, waited[keep]), ""
	}
	return recs, piece
}

// crash crashes the disk and opens the store again; it tells whether the records that are left fit. (There must be room for the log to be laid anew.)
func (x *desk) crash(keep, torn int) bool {
	x.t.Helper()
	kept, whole := x.kept, len(x.recs) == x.synced && !x.broken
	recs, piece := x.left(keep, torn)
	x.d.Crash(keep, torn)
	x.recs, x.synced = recs, len(recs)
	wantFiles(x.t, "P9.3", x.d, x.others.with(x.file(), x.bytes()+piece))
	if piece != "" {
		x.number++
		x.laid = len(recs)
	}
	fits := x.open()
	if fits && whole {
		wantNode(x.t, "P15.3: what was synced or packed", x.kept, kept)
	}
	return fits
}
