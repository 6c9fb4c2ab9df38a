package store_test

import (
	"math"
	"slices"
	"strings"
	"testing"

	"matins/api"
	"matins/disk"
	"matins/raft"
	"matins/store"
	"matins/wal"
)

var three = []int{1, 2, 3}

func TestExamples(t *testing.T) {
	x := deskOf(t)
	empty, _ := raft.New(1, three)
	wantNode(t, "example 1: Open of an empty disk", x.kept, empty)
	node := empty
	node.Term, node.Vote, node.Trail.Entries = 2, 1, []api.Entry{{Term: 1, Data: "a"}, {Term: 2, Data: "b"}}
	x.write(node)
	first := []string{"\x01\x02\x01", "\x02\x01\x01\x01\x61", "\x02\x02\x02\x01\x62"}
	wantFiles(t, "example 1", x.d, files{"log-1": told(0, first...)})
	x.write(node)
	wantFiles(t, "example 1: again", x.d, files{"log-1": told(0, first...)})
	node.Term, node.Vote, node.Trail.Entries = 3, 0, []api.Entry{{Term: 1, Data: "a"}, {Term: 3, Data: "c"}}
	x.write(node)
	wantFiles(t, "example 2", x.d, files{"log-1": told(0, append(first, "\x01\x03\x00", "\x02\x02\x03\x01\x63")...)})
	x.pack()
	wantFiles(t, "example 2: Pack", x.d, files{"log-2": laid("\x01\x03\x00", "\x02\x01\x01\x01\x61", "\x02\x02\x03\x01\x63")})
	if x.s.Count() != 3 {
		t.Errorf("example 2: Pack: %d records", x.s.Count())
	}
}

// wrongNodes are Ids and Confs that raft.New refuses.
func wrongNodes() []api.Raft {
	return []api.Raft{
		{Id: 1}, {Id: 0, Conf: []int{}}, {Id: 4, Conf: []int{1}}, {Id: 4, Conf: three}, {Id: 0, Conf: three}, {Id: -1, Conf: three}, {Id: math.MinInt, Conf: three}, {Id: math.MaxInt, Conf: three},
		{Id: 0, Conf: []int{0}}, {Id: 1, Conf: []int{0, 1}}, {Id: -1, Conf: []int{-1, 1}}, {Id: 1, Conf: []int{-1, 1}}, {Id: 1, Conf: []int{1, 1}}, {Id: 1, Conf: []int{2, 1}}, {Id: 1, Conf: []int{1, 3, 2}},
		{Id: 1, Conf: []int{1, 2, 3, 4, 5, 6, 7, 8}}, {Id: 1 + 1<<32, Conf: three},
	}
}

// ErrArg is told ahead of all that may be wrong with the disk, which stays as it is.
func TestOpenOfWrongNodes(t *testing.T) {
	for _, r := range wrongNodes() {
		if _, err := raft.New(r.Id, r.Conf); err != api.ErrArg {
			t.Fatalf("raft.New(%d, %v): %d", r.Id, r.Conf, err)
		}
		refuseOpen(t, "no disk", nil, r.Id, r.Conf, api.ErrArg)
		for _, fs := range []files{nil, {"log-1": laid(), "log-2": ""}, {"log-1": laid(recVote(1, 1)) + "torn"}, {"log-1": laid("") + "torn"}, filler(files{"log-1": laid("") + "torn"}, 0)} {
			d := diskOf(t, fs)
			refuseOpen(t, "a wrong node", d, r.Id, r.Conf, api.ErrArg)
			wantFiles(t, "rule 3: Open of a wrong node", d, files{}.and(fs))
		}
	}
	for _, conf := range [][]int{{1}, three, {1, 2, 3, 4, 5, 6, 7}} {
		refuseOpen(t, "no disk", nil, 1, conf, api.ErrArg)
	}
}

// and is these files and others.
func (fs files) and(others files) files {
	for name, s := range others {
		fs = fs.with(name, s)
	}
	return fs
}

func TestOpenOfAnEmptyDisk(t *testing.T) {
	for _, conf := range [][]int{{1}, {9}, {math.MaxInt}, {1, 2}, three, {2, 5, 90}, {1, 2, 3, 4, 5, 6, 7}} {
		for _, id := range conf {
			x := newDesk(t, id, conf, nil)
			want, _ := raft.New(id, conf)
			wantNode(t, "P15.1: Open of an empty disk", x.kept, want)
			wantFiles(t, "P15.1: Open of an empty disk", x.d, files{"log-1": laid()})
			x.open()
			x.crash(0, 0)
		}
	}
}

// What isn't the log's stays, whatever it is, and waits if it waited.
func TestOtherFiles(t *testing.T) {
	others := files{"log-0": laid(recVote(7, 1)), "log-01": "x", "log": laid(recVote(7, 1)), "store": "", "a": strings.Repeat("b", 999), "log-1a": laid("")}
	x := newDesk(t, 1, three, others)
	x.write(with(node(), 3, 1, 1))
	x.sync()
	x.pack()
	x.crash(0, 0)
	x.d.Append("late", []byte("waits"))
	if s, _, err := store.Open(x.d, 1, three); s == nil || err != api.OK || s.Write(with(node(), 4, 1, 2)) != api.OK || s.Sync() != api.OK || s.Pack() != api.OK {
		t.Errorf("P15.1: beside a file that waits: error %d", err)
	}
	if x.d.Waiting() != 1 {
		t.Errorf("P15.2: %d writes wait, want 1", x.d.Waiting())
	}
}

// Which file is the log's, chapter 10 says.
func TestOpenTakesTheLogThatIsWhole(t *testing.T) {
	one, two := recVote(1, 1), recVote(2, 2)
	for _, c := range []struct {
		fs    files
		after files
		term  int64
	}{
		{files{"log-1": laid(one), "log-2": laid(two)}, files{"log-2": laid(two)}, 2},
		{files{"log-1": laid(one), "log-2": told(2, two)}, files{"log-1": laid(one)}, 1},
		{files{"log-9": laid(one), "log-10": told(0, two)}, files{"log-10": told(0, two)}, 2},
		{files{"log-3": laid(one) + "torn"}, files{"log-4": laid(one)}, 1},
		{files{"log-3": "", "log-7": "torn"}, files{"log-8": laid()}, 0},
		{files{"log-1": laid(""), "log-2": laid(two)}, files{"log-2": laid(two)}, 2},
		{files{"log-3": laid(one) + frame("")[:3]}, files{"log-4": laid(one)}, 1},
	} {
		d := diskOf(t, c.fs)
		s, node, err := openLent(t, d, 1, three)
		if err != api.OK || s == nil || node.Term != c.term || s.Count() != int(min(c.term, 1)) {
			t.Errorf("P15.1: Open: %s, error %d; want Term %d", toldNode(node), err, c.term)
		}
		wantFiles(t, "P15.1: Open", d, c.after)
	}
}

func TestOpenWhereTheLogIsRefused(t *testing.T) {
	torn := laid(recVote(1, 1)) + "torn"
	wrong := laid("") + "torn" // ErrFull is told ahead of ErrBytes
	for _, log := range []string{torn, wrong} {
		for _, fs := range []files{
			fill(files{"log-1": log}, 63), filler(files{"log-1": log}, 0), filler(files{"log-1": log}, len(log)-5), {"log-999999999": log}, filler(files{"log-1": log, "log-2": "torn"}, 0),
		} {
			d := diskOf(t, fs)
			refuseOpen(t, "a log that is refused", d, 1, three, api.ErrFull)
			if _, _, err := wal.Open(diskOf(t, fs)); err != api.ErrFull {
				t.Errorf("layer 10: %d", err)
			}
		}
	}
	for _, fs := range []files{fill(nil, 64), filler(nil, 0), filler(nil, 5), {"log-999999999": ""}} {
		refuseOpen(t, "a log that finds no room", diskOf(t, fs), 1, three, api.ErrFull)
	}
	x := newDesk(t, 1, three, filler(nil, 6)) // as much as an empty log takes
	if x.write(with(node(), 1, 0)) != api.ErrFull {
		t.Errorf("P15.2: a full disk takes a record")
	}
}

// node is a new one, 1 of 1, 2, 3.
func node() api.Raft { return fresh(1, three) }

// entries is some of these terms, without data.
func entries(terms ...int64) []api.Entry {
	var list []api.Entry
	for _, term := range terms {
		list = append(list, api.Entry{Term: term})
	}
	return list
}

// with is a node with a Term, a Vote, and entries of these terms in place of its own.
func with(r api.Raft, term int64, vote int, terms ...int64) api.Raft {
	r.Term, r.Vote, r.Trail.Entries = term, vote, entries(terms...)
	return r
}

// based is a node with a base, a Snap, and entries of these terms in place of its own.
func based(r api.Raft, base, baseTerm int64, snap string, terms ...int64) api.Raft {
	r.Trail = api.Trail{Base: base, BaseTerm: baseTerm, Entries: entries(terms...)}
	r.Snap, r.Commit = snap, base
	return r
}

// wantOpen opens a log with these records, which make this node of 1, 2, 3; it is held against the paper too.
func wantOpen(t *testing.T, what string, want api.Raft, recs ...string) {
	t.Helper()
	x := deskWith(t, 1, three, recs...)
	wantNode(t, "P15.1: "+what, x.kept, want)
}

// refuseLast opens a log with these records, of which the last one doesn't fit, and those ahead of it do.
func refuseLast(t *testing.T, what string, recs ...string) {
	t.Helper()
	end := len(recs) - 1
	deskWith(t, 1, three, recs[:end]...)
	if _, fits := paperOpen(1, three, recs); fits {
		t.Errorf("the paper: %s fits: %s", what, toldRecs(recs))
	}
	for _, more := range [][]string{nil, {recVote(9, 1)}, {""}} {
		all := slices.Concat(recs, more)
		d := diskOf(t, files{"log-1": laid(all...)})
		refuseOpen(t, what, d, 1, three, api.ErrBytes)
		wantFiles(t, "P15.1: "+what, d, files{"log-1": laid(all...)})
		refuseOpen(t, what+", again", d, 1, three, api.ErrBytes)
	}
}

func TestRecordsThatAreNone(t *testing.T) {
	whole := []string{recVote(5, 1), recEntry(1, 4, "a"), recBase(1, 4, "s"), recEnd(1)}
	for i, rec := range whole {
		deskWith(t, 1, three, whole[:i+1]...)
		for n := range len(rec) { // a field too few, and bytes too few
			refuseLast(t, "a beginning of a record", append(slices.Clone(whole[:i]), rec[:n])...)
		}
		for _, more := range []string{"\x00", "\x01", nums(7), nums(7, 7), str("more"), "\x80", "\xff\xff", rec} {
			refuseLast(t, "bytes behind a record", append(slices.Clone(whole[:i]), rec+more)...)
		}
	}
	for _, kind := range []int64{0, 5, 6, 7, 127, 128, 129, 130, 255, 256, 257, 1 << 32, 1<<32 + 1, top, math.MaxInt64} {
		for _, behind := range []string{"", nums(1), nums(1, 1), nums(1, 1) + str("a"), nums(1) + str("a"), str("a"), nums(1, 1, 1)} {
			refuseLast(t, "another kind", recVote(5, 1), recEntry(1, 4, "a"), nums(kind)+behind)
		}
	}
	for _, kind := range []string{"\x81\x00", "\x82\x00", "\x83\x00", "\x84\x00", "\x81\x80\x00", "\x80", "\x81", "\x84", "\xff", strings.Repeat("\xff", 9) + "\x01", strings.Repeat("\xff", 10) + "\x01"} {
		for _, behind := range []string{"", nums(1), nums(1, 1), nums(1, 1) + str("a")} {
			refuseLast(t, "a kind that isn't a Num", recVote(5, 1), recEntry(1, 4, "a"), kind+behind)
		}
	}
}

func TestFieldsOfAnotherSort(t *testing.T) {
	begin := []string{recVote(5, 1), recEntry(1, 4, "a")}
	for _, rec := range []string{
		nums(1, 5) + str("1"), nums(1) + str("5") + nums(1), nums(1) + str("\x05\x01"), nums(1, 5, 1) + str(""),
		nums(2) + str("a"), nums(2, 2) + str("a"), nums(2, 2, 5, 1), nums(2, 2, 5, 5) + "four", nums(2, 2, 5) + "a", nums(2, 2, 5) + str("a") + nums(1), nums(2, 2, 5) + str("a") + str("b"), nums(2, 2) + str("a") + nums(5),
		nums(3, 1) + str("s"), nums(3, 1, 4, 1), nums(3, 1, 4) + "s", nums(3, 1, 4) + str("s") + str("s"), nums(3, 1) + str("s") + nums(4),
		nums(4) + str("a"), nums(4) + str("\x01"), nums(4, 1, 1), nums(4, 1) + str("a"),
		// numbers that aren't as short as they can be
		"\x01\x85\x00\x01", "\x01\x05\x81\x00", "\x02\x82\x00\x05\x01a", "\x02\x02\x85\x00\x01a", "\x02\x02\x05\x81\x00a", "\x03\x81\x00\x04\x01s", "\x03\x01\x84\x00\x01s", "\x03\x01\x04\x81\x00s", "\x04\x81\x00",
		// a text that ends behind the record
		nums(2, 2, 5, 65536), nums(3, 1, 4, 65536), nums(2, 2, 5, 65537), nums(3, 1, 4, 65537), nums(2, 2, 5, math.MaxInt64), nums(2, 2, 5) + uvarint(math.MaxUint64),
	} {
		refuseLast(t, "fields of another sort", append(slices.Clone(begin), rec)...)
	}
}

// numbers past the limits of a field, up to those that no Num has.
func past(limit uint64) []string {
	var all []string
	for _, n := range []uint64{limit + 1, limit + 2, 1<<41 + 1, 1 << 62, math.MaxInt64, 1 << 63, 1<<63 + 1, math.MaxUint64} {
		all = append(all, uvarint(n))
	}
	return all
}

func TestVoteRecords(t *testing.T) {
	for _, term := range []int64{0, 1, 2, 127, 128, 1 << 32, top - 1, top} {
		for _, vote := range []int{0, 1, 2, 3} {
			wantOpen(t, "a record 1", with(node(), term, vote), recVote(term, vote))
			wantOpen(t, "a record 1 behind another", with(node(), term, vote), recVote(9, 3), recVote(term, vote))
		}
	}
	for _, n := range past(top) {
		refuseLast(t, "a term past the last", nums(1)+n+nums(0))
		refuseLast(t, "a term past the last", recVote(5, 1), recEntry(1, 5, ""), nums(1)+n+nums(1))
	}
	for _, vote := range append(past(3), nums(4), nums(127), nums(128), nums(1<<32+1), nums(top+1)) {
		refuseLast(t, "a Vote that isn't in Conf", nums(1, 5)+vote)
		refuseLast(t, "a Vote that isn't in Conf", nums(1, 0)+vote)
	}
	begin := []string{recVote(9, 1), recEntry(1, 3, "a"), recEntry(2, 5, "b")}
	for term := range int64(12) {
		all := append(slices.Clone(begin), recVote(term, 2))
		if term < 5 {
			refuseLast(t, "a Term below what the log has", all...)
			continue
		}
		x := deskWith(t, 1, three, all...)
		if x.kept.Term != term || x.kept.Vote != 2 {
			t.Errorf("P15.1: Term %d: %s", term, toldNode(x.kept))
		}
	}
	refuseLast(t, "a Term below the base's", recVote(9, 1), recBase(7, 6, "s"), recVote(5, 1))
	wantOpen(t, "a Term that is the base's", based(with(node(), 6, 1), 7, 6, "s"), recVote(9, 1), recBase(7, 6, "s"), recVote(6, 1))
	wantOpen(t, "a Term that the log, shortened, allows", with(node(), 3, 0, 3), recVote(9, 1), recEntry(1, 3, ""), recEntry(2, 5, ""), recEnd(1), recVote(3, 0))
	gap := deskWith(t, 20, []int{10, 20, 90}, recVote(5, 90), recVote(6, 0), recVote(6, 10))
	if gap.kept.Vote != 10 {
		t.Errorf("P15.1: %s", toldNode(gap.kept))
	}
	for _, vote := range []int{1, 9, 11, 15, 30, 91} {
		refuseOpen(t, "a Vote that isn't in Conf", diskOf(t, files{"log-1": laid(recVote(5, vote))}), 20, []int{10, 20, 90}, api.ErrBytes)
	}
}

func TestEntryRecordsByNumber(t *testing.T) {
	for _, base := range []int64{0, 1, 7, 1 << 32, top - 8} {
		begin := []string{recVote(9, 1), recBase(base, min(base, 2), "s")}
		log := based(with(node(), 9, 1), base, min(base, 2), "s")
		begin = append(begin, recEntries(base+1, 3, 4, 4, 6)...)
		for n := int64(1); n <= 4; n++ { // from one above the base to the last number
			terms := append([]int64{3, 4, 4, 6}[:n-1:n-1], 6)
			want := log
			want.Trail.Entries = entries(terms...)
			want.Trail.Entries[n-1].Data = "x"
			wantOpen(t, "a record 2 that takes entries away", want, append(slices.Clone(begin), recEntry(base+n, 6, "x"))...)
		}
		want := log
		want.Trail.Entries = append(entries(3, 4, 4, 6), api.Entry{Term: 6, Data: "x"})
		wantOpen(t, "a record 2 behind the last", want, append(slices.Clone(begin), recEntry(base+5, 6, "x"))...)
		for _, n := range []int64{base, base - 1, 0, base + 6, base + 7, base + 4096, top, top + 1, math.MaxInt64 - 1, math.MaxInt64} {
			if n >= 0 && (n <= base || n > base+5) {
				refuseLast(t, "a record 2 whose n isn't there", append(slices.Clone(begin), recEntry(n, 6, "x"))...)
			}
		}
	}
	wantOpen(t, "a first entry", with(node(), 1, 0, 1), recVote(1, 0), recEntry(1, 1, ""))
	refuseLast(t, "an entry 0", recVote(1, 0), recEntry(0, 1, ""))
	refuseLast(t, "an entry 2 of an empty log", recVote(1, 0), recEntry(2, 1, ""))
	for _, n := range past(top) {
		refuseLast(t, "an n past the last", recVote(1, 0), recBase(top, 1, ""), nums(2)+n+nums(1)+str(""))
	}
}

func TestEntryRecordsByTerm(t *testing.T) {
	begin := []string{recVote(7, 1), recBase(3, 2, "s"), recEntry(4, 4, ""), recEntry(5, 5, "")}
	for n := int64(4); n <= 6; n++ {
		least := []int64{2, 4, 5}[n-4] // the term of the one ahead
		for term := range int64(10) {
			all := append(slices.Clone(begin), recEntry(n, term, "x"))
			if term < least || term > 7 {
				refuseLast(t, "an entry that doesn't follow", all...)
				continue
			}
			x := deskWith(t, 1, three, all...)
			if e, ok := entryAt(x.kept.Trail, n); !ok || e.Term != term || e.Data != "x" || lastOf(x.kept.Trail) != n {
				t.Errorf("P15.1: the entry %d of the term %d: %s", n, term, toldNode(x.kept))
			}
		}
	}
	refuseLast(t, "a term 0", recEntry(1, 0, ""))
	refuseLast(t, "a term 0", recVote(1, 0), recEntry(1, 0, ""))
	refuseLast(t, "a term 0 behind a base of the term 0", recVote(1, 0), recBase(3, 0, ""), recEntry(4, 0, ""))
	refuseLast(t, "a term above Term", recEntry(1, 1, "a"))
	refuseLast(t, "a term above Term", recVote(top-1, 0), recEntry(1, top, "a"))
	wantOpen(t, "the last term", with(node(), top, 0, 1, top), recVote(top, 0), recEntry(1, 1, ""), recEntry(2, top, ""))
	for _, n := range past(top) {
		refuseLast(t, "a term past the last", recVote(top, 0), nums(2, 1)+n+str(""))
	}
}

func TestEntryRecordsByData(t *testing.T) {
	for _, n := range []int{0, 1, 127, 128, api.MaxData - 1, api.MaxData} {
		for _, data := range []string{strings.Repeat("\x00", n), strings.Repeat("\xff", n)} {
			want := with(node(), 1, 0, 1)
			want.Trail.Entries[0].Data = data
			wantOpen(t, "a Data", want, recVote(1, 0), recEntry(1, 1, data))
		}
	}
	for _, n := range []int{api.MaxData + 1, api.MaxData + 2, api.MaxSnap, api.MaxText - 6} {
		refuseLast(t, "a Data that is too long", recVote(1, 0), recEntry(1, 1, strings.Repeat("d", n)))
		refuseLast(t, "a Data that is too long", recVote(1, 0), recEntry(1, 1, ""), recEntry(2, 1, "a"), recEntry(2, 1, strings.Repeat("d", n)))
	}
}

func TestBaseRecords(t *testing.T) {
	begin := append([]string{recVote(9, 1), recBase(4, 2, "old")}, recEntries(5, 3, 3, 5, 8)...)
	log := []int64{2, 3, 3, 5, 8} // the terms from the base on
	r := with(node(), 9, 1)
	for n := range int64(12) {
		for term := range int64(11) {
			all := append(slices.Clone(begin), recBase(n, term, "new"))
			switch {
			case term > 9, n == 0 && term > 0:
				refuseLast(t, "a base that isn't right", all...)
			case n >= 4 && n <= 8 && log[n-4] == term:
				wantOpen(t, "a base that the log has", based(r, n, term, "new", log[n-3:]...), all...)
			default:
				wantOpen(t, "a base that the log hasn't", based(r, n, term, "new"), all...)
			}
		}
	}
	for _, n := range []int64{1, 1 << 32, top - 1, top} {
		for _, term := range []int64{0, 1, 9} {
			wantOpen(t, "a base far off", based(r, n, term, "new"), append(slices.Clone(begin), recBase(n, term, "new"))...)
		}
	}
	for _, n := range past(top) {
		refuseLast(t, "a base past the last", append(slices.Clone(begin), nums(3)+n+nums(1)+str(""))...)
		refuseLast(t, "a base past the last", nums(3)+n+nums(0)+str(""))
		refuseLast(t, "a base's term past the last", recVote(top, 1), nums(3, 1)+n+str(""))
	}
	wantOpen(t, "a base of the last term", based(with(node(), top, 1), 1, top, ""), recVote(top, 1), recBase(1, top, ""))
	wantOpen(t, "a base of the term 0", based(node(), 1, 0, "s"), recBase(1, 0, "s"))
	refuseLast(t, "a base above Term", recBase(1, 1, "s"))
}

// A log without a base has the entry number 0, of the term 0.
func TestBaseRecordsAtNought(t *testing.T) {
	wantOpen(t, "the base 0 of an empty log", based(node(), 0, 0, "s"), recBase(0, 0, "s"))
	wantOpen(t, "the base 0", based(with(node(), 5, 1), 0, 0, "s", 2, 3), recVote(5, 1), recEntry(1, 2, ""), recEntry(2, 3, ""), recBase(0, 0, "s"))
	refuseLast(t, "the base 0 of a term", recVote(5, 1), recEntry(1, 2, ""), recBase(0, 2, "s"))
	refuseLast(t, "the base 0 of a term", recVote(5, 1), recBase(0, 5, "s"))
	wantOpen(t, "a base, and back", based(with(node(), 5, 1), 0, 0, ""), recVote(5, 1), recBase(3, 5, "s"), recEntry(4, 5, "a"), recBase(0, 0, ""))
	wantOpen(t, "a base one ahead", based(with(node(), 5, 1), 2, 5, ""), recVote(5, 1), recBase(3, 5, "s"), recEntry(4, 5, "a"), recBase(2, 5, ""))
}

func TestSnaps(t *testing.T) {
	for _, n := range []int{0, 1, 127, 128, 16384, api.MaxSnap - 1, api.MaxSnap} {
		snap := strings.Repeat("\xfe", n)
		wantOpen(t, "a Snap", based(with(node(), 1, 0), 1, 1, snap), recVote(1, 0), recBase(1, 1, snap))
		wantOpen(t, "a Snap of a base that is there", based(with(node(), 1, 0), 1, 1, snap, 1), recVote(1, 0), recEntry(1, 1, ""), recEntry(2, 1, ""), recBase(1, 1, snap))
	}
	for _, n := range []int{api.MaxSnap + 1, api.MaxSnap + 2, api.MaxText - 6} {
		snap := strings.Repeat("s", n)
		refuseLast(t, "a Snap that is too long", recBase(0, 0, snap))
		refuseLast(t, "a Snap that is too long", recVote(1, 0), recBase(1, 1, snap))
		refuseLast(t, "a Snap that is too long", recVote(1, 0), recEntry(1, 1, ""), recEntry(2, 1, ""), recBase(1, 1, snap))
	}
}

func TestEndRecords(t *testing.T) {
	for _, base := range []int64{0, 1, 5, 1 << 32, top - 4} {
		begin := append([]string{recVote(9, 1), recBase(base, min(base, 2), "s")}, recEntries(base+1, 3, 4, 4, 6)...)
		r := based(with(node(), 9, 1), base, min(base, 2), "s")
		for n := range int64(5) {
			want := r
			want.Trail.Entries = entries([]int64{3, 4, 4, 6}[:n]...)
			wantOpen(t, "a record 4", want, append(slices.Clone(begin), recEnd(base+n))...)
			wantOpen(t, "a record 4 twice", want, append(slices.Clone(begin), recEnd(base+n), recEnd(base+n))...)
			want.Trail.Entries = append(entries([]int64{3, 4, 4, 6}[:n]...), api.Entry{Term: 9, Data: "x"})
			if base+n < top {
				wantOpen(t, "an entry behind a record 4", want, append(slices.Clone(begin), recEnd(base+n), recEntry(base+n+1, 9, "x"))...)
			}
			if n < 4 {
				refuseLast(t, "a record 4 behind one that leaves less", append(slices.Clone(begin), recEnd(base+n), recEnd(base+n+1))...)
			}
		}
		for _, n := range []int64{base - 1, 0, base + 5, base + 6, base + 9999, top, top + 1, math.MaxInt64} {
			if n >= 0 && (n < base || n > base+4) {
				refuseLast(t, "a record 4 whose n isn't there", append(slices.Clone(begin), recEnd(n))...)
			}
		}
		for _, n := range past(top) {
			refuseLast(t, "a record 4 past the last", append(slices.Clone(begin), nums(4)+n)...)
		}
	}
	wantOpen(t, "a record 4 of an empty log", node(), recEnd(0))
	refuseLast(t, "a record 4 past an empty log", recEnd(1))
}

func TestLogsAtTheirLimits(t *testing.T) {
	full := append([]string{recVote(3, 1)}, recEntries(1, slices.Repeat([]int64{2}, api.MaxLog)...)...)
	x := deskWith(t, 1, three, full...)
	if len(x.kept.Trail.Entries) != api.MaxLog {
		t.Errorf("P15.1: %d entries, want MaxLog", len(x.kept.Trail.Entries))
	}
	refuseLast(t, "one entry more than MaxLog", append(slices.Clone(full), recEntry(api.MaxLog+1, 2, ""))...)
	want := x.kept
	want.Trail.Entries = append(slices.Clone(x.kept.Trail.Entries[:api.MaxLog-1]), api.Entry{Term: 3, Data: "x"})
	wantOpen(t, "the last one of MaxLog", want, append(slices.Clone(full), recEntry(api.MaxLog, 3, "x"))...)
	want = x.kept
	want.Trail, want.Commit = api.Trail{Base: 1, BaseTerm: 2, Entries: append(slices.Clone(x.kept.Trail.Entries[1:]), api.Entry{Term: 3})}, 1
	wantOpen(t, "one entry more where one was cut", want, append(slices.Clone(full), recBase(1, 2, ""), recEntry(api.MaxLog+1, 3, ""))...)
	refuseLast(t, "two entries more where one was cut", append(slices.Clone(full), recBase(1, 2, ""), recEntry(api.MaxLog+1, 3, ""), recEntry(api.MaxLog+2, 3, ""))...)
	want = x.kept
	want.Trail.Entries = append(slices.Clone(x.kept.Trail.Entries[:api.MaxLog-2]), entries(3, 3)...)
	wantOpen(t, "two entries more where two were taken away", want, append(slices.Clone(full), recEnd(api.MaxLog-2), recEntry(api.MaxLog-1, 3, ""), recEntry(api.MaxLog, 3, ""))...)

	r := with(node(), 3, 1)
	wantOpen(t, "the last number 2^40", based(r, top-1, 2, "", 2), recVote(3, 1), recBase(top-1, 2, ""), recEntry(top, 2, ""))
	refuseLast(t, "a number past 2^40", recVote(3, 1), recBase(top-1, 2, ""), recEntry(top, 2, ""), recEntry(top+1, 2, ""))
	refuseLast(t, "a number past 2^40", recVote(3, 1), recBase(top, 2, ""), recEntry(top+1, 2, ""))
	wantOpen(t, "an entry 2^40 in the place of another", based(r, top-1, 2, "", 3), recVote(3, 1), recBase(top-1, 2, ""), recEntry(top, 2, ""), recEntry(top, 3, ""))
}

// All kinds, one behind the other, with what they make at each place.
func TestOneBehindTheOther(t *testing.T) {
	r := with(node(), 4, 2)
	var recs []string
	for _, c := range []struct {
		rec  string
		want api.Raft
	}{
		{recVote(4, 2), r},
		{recEntry(1, 1, ""), with(r, 4, 2, 1)},
		{recEntry(2, 2, ""), with(r, 4, 2, 1, 2)},
		{recEntry(3, 4, ""), with(r, 4, 2, 1, 2, 4)},
		{recEntry(2, 3, ""), with(r, 4, 2, 1, 3)},
		{recBase(1, 1, "s"), based(r, 1, 1, "s", 3)},
		{recEntry(3, 3, ""), based(r, 1, 1, "s", 3, 3)},
		{recVote(7, 0), based(with(r, 7, 0), 1, 1, "s", 3, 3)},
		{recEntry(4, 7, ""), based(with(r, 7, 0), 1, 1, "s", 3, 3, 7)},
		{recEnd(3), based(with(r, 7, 0), 1, 1, "s", 3, 3)},
		{recBase(3, 3, "u"), based(with(r, 7, 0), 3, 3, "u")},
		{recEntry(4, 5, ""), based(with(r, 7, 0), 3, 3, "u", 5)},
		{recBase(4, 4, ""), based(with(r, 7, 0), 4, 4, "")},
		{recBase(9, 7, "v"), based(with(r, 7, 0), 9, 7, "v")},
		{recEntry(10, 7, ""), based(with(r, 7, 0), 9, 7, "v", 7)},
		{recBase(9, 7, "w"), based(with(r, 7, 0), 9, 7, "w", 7)},
		{recEnd(9), based(with(r, 7, 0), 9, 7, "w")},
	} {
		recs = append(recs, c.rec)
		wantOpen(t, "one behind the other", c.want, slices.Clone(recs)...)
	}
}

// The first record that doesn't fit tells: those that would fit behind it, or did ahead of it, play no part.
func TestTheFirstThatDoesNotFit(t *testing.T) {
	right := []string{recVote(4, 2), recEntry(1, 1, "a"), recEntry(2, 2, "b"), recBase(1, 1, "s"), recEnd(1), recEntry(2, 4, "c"), recVote(5, 0)}
	deskWith(t, 1, three, right...)
	for _, wrong := range []string{"", "\x00", "\x05\x01", nums(1, 5), recVote(top+1, 0), recVote(6, 9), recEntry(9, 5, ""), recEntry(1, 0, ""), recBase(0, 1, ""), recEnd(9), recBase(9, 9, "")} {
		for at := range len(right) + 1 {
			all := slices.Concat(right[:at], []string{wrong}, right[at:])
			d := diskOf(t, files{"log-1": laid(all...)})
			refuseOpen(t, "a record that doesn't fit among others", d, 1, three, api.ErrBytes)
		}
	}
	// What a record makes must be right at each place, though a later one would mend it.
	refuseLast(t, "a term that a later record allows", recEntry(1, 3, ""))
	refuseLast(t, "a Vote that is mended", recVote(3, 9))
	refuseLast(t, "a Term that is mended", recVote(3, 0), recEntry(1, 3, ""), recVote(2, 0))
	refuseOpen(t, "a term that a later record allows", diskOf(t, files{"log-1": laid(recEntry(1, 3, ""), recVote(3, 0))}), 1, three, api.ErrBytes)
	refuseOpen(t, "a Vote that is mended", diskOf(t, files{"log-1": laid(recVote(3, 9), recVote(3, 0))}), 1, three, api.ErrBytes)
	refuseOpen(t, "a Term that is mended", diskOf(t, files{"log-1": laid(recVote(3, 0), recEntry(1, 3, ""), recVote(2, 0), recVote(3, 0))}), 1, three, api.ErrBytes)
	refuseOpen(t, "an entry that is taken away", diskOf(t, files{"log-1": laid(recVote(3, 0), recEntry(1, 3, ""), recEntry(2, 2, ""), recEnd(1))}), 1, three, api.ErrBytes)
	// A torn log is laid anew ahead of the look at its records.
	d := diskOf(t, files{"log-1": laid(recVote(3, 9)) + "torn"})
	refuseOpen(t, "a record that doesn't fit in a torn log", d, 1, three, api.ErrBytes)
	wantFiles(t, "P10.1", d, files{"log-2": laid(recVote(3, 9))})
	d = diskOf(t, files{"log-1": laid(recVote(3, 1)) + frame("")[:4]})
	if _, node, err := store.Open(d, 1, three); err != api.OK || node.Term != 3 {
		t.Errorf("P15.1: a record that doesn't fit, but is torn: %d", err)
	}
}

// As many records as a disk can hold: what they make is looked at one by one, and yet soon.
func TestMostRecords(t *testing.T) {
	recs := append([]string{recVote(3, 1)}, recEntries(1, slices.Repeat([]int64{2}, api.MaxLog)...)...)
	more := []string{recEntry(api.MaxLog, 2, "x"), recVote(3, 2), recBase(0, 0, ""), recEnd(api.MaxLog), recEntry(api.MaxLog, 3, ""), recVote(3, 1)}
	log := laid(recs...)
	block := told(0, more...)[len(told(0)):]
	times := (api.MaxDisk - len(log)) / len(block)
	d := diskOf(t, files{"log-1": log + strings.Repeat(block, times)})
	s, got, err := openLent(t, d, 1, three)
	if err != api.OK || s.Count() != len(recs)+times*len(more) {
		t.Fatalf("P15.1: %d, want %d records", err, len(recs)+times*len(more))
	}
	want := with(node(), 3, 1, append(slices.Repeat([]int64{2}, api.MaxLog-1), 3)...)
	wantNode(t, "P15.1: the most records", got, want)
	wantErrno(t, "P15.2: the most records", s.Pack(), api.ErrFull)
	none := (api.MaxDisk - len(laid())) / len(frame(recEnd(0)))
	d = diskOf(t, files{"log-1": laid() + strings.Repeat(frame(recEnd(0)), none)})
	if s, got, err := openLent(t, d, 1, three); err != api.OK || s.Count() != none || !sameNode(got, node()) {
		t.Errorf("P15.1: %s, %d", toldNode(got), err)
	}
}

// Of a nil store the calls answer, and don't panic.
func TestNil(t *testing.T) {
	var s *store.Store
	for _, r := range []api.Raft{{}, node(), with(node(), 3, 1, 1)} {
		wantErrno(t, "rule 1: Write of a nil store", s.Write(r), api.ErrArg)
	}
	wantErrno(t, "rule 1: Sync of a nil store", s.Sync(), api.ErrArg)
	wantErrno(t, "rule 1: Pack of a nil store", s.Pack(), api.ErrArg)
	if s.Count() != 0 {
		t.Errorf("rule 1: Count of a nil store: %d", s.Count())
	}
}

// A store's node is of its own group: the same records may fit one and not another.
func TestAnotherConf(t *testing.T) {
	log := laid(recVote(5, 3), recEntry(1, 4, "a"))
	for _, c := range []struct {
		id   int
		conf []int
		want api.Errno
	}{{1, three, api.OK}, {2, three, api.OK}, {3, []int{3}, api.OK}, {1, []int{1, 3}, api.OK}, {1, []int{1}, api.ErrBytes}, {1, []int{1, 2}, api.ErrBytes}, {4, []int{1, 2, 4}, api.ErrBytes}} {
		d := diskOf(t, files{"log-1": log})
		s, node, err := openLent(t, d, c.id, c.conf)
		if err != c.want || (s != nil) != (err == api.OK) {
			t.Errorf("P15.1: %d of %v: error %d, want %d", c.id, c.conf, err, c.want)
		}
		if err == api.OK {
			wantNode(t, "P15.1", node, api.Raft{Id: c.id, Conf: c.conf, Term: 5, Vote: 3, Trail: api.Trail{Entries: []api.Entry{{Term: 4, Data: "a"}}}, Left: 10, Wait: 10})
		}
	}
}

// Stores on two disks know nothing of each other; two on one disk have what the log had when each was opened.
func TestStoresAreApart(t *testing.T) {
	x, y := deskOf(t), newDesk(t, 2, three, nil)
	x.write(with(node(), 3, 1, 1, 2))
	y.look()
	y.write(with(fresh(2, three), 4, 2, 4))
	x.look()
	x.pack()
	y.sync()
	x.crash(0, 0)
	y.crash(0, 0)
	d := disk.New()
	a, _, _ := store.Open(d, 1, three)
	if a.Write(with(node(), 3, 1)) != api.OK {
		t.Fatal("Write")
	}
	b, node, err := store.Open(d, 1, three)
	if err != api.OK || node.Term != 3 || b.Count() != 1 {
		t.Errorf("P15.1: %s, %d", toldNode(node), err)
	}
}
