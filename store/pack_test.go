package store_test

import (
	"slices"
	"strconv"
	"strings"
	"testing"

	"matins/api"
	"matins/raft"
	"matins/store"
)

func TestWithNothingWritten(t *testing.T) {
	x := deskOf(t)
	for range 3 {
		x.sync()
		wantFiles(t, "P15.2: Sync with nothing written", x.d, files{"log-1": laid()})
	}
	for n := 2; n < 6; n++ {
		wantErrno(t, "P15.2: Pack with nothing written", x.pack(), api.OK)
		wantFiles(t, "P15.2: Pack with nothing written", x.d, files{"log-" + strconv.Itoa(n): laid()})
		x.sync()
		x.crash(1, 1)
	}
}

// Each call, one by one, with the bytes that it leaves and what waits behind it.
func TestStepByStep(t *testing.T) {
	x := deskOf(t)
	see := func(what string, count, waiting int, fs files) {
		t.Helper()
		if x.s.Count() != count || x.d.Waiting() != waiting {
			t.Errorf("P15.2: %s: %d records, %d wait; want %d, %d", what, x.s.Count(), x.d.Waiting(), count, waiting)
		}
		wantFiles(t, "P15.2: "+what, x.d, fs)
	}
	see("Open", 0, 0, files{"log-1": laid()})
	x.write(log(0, 0, "", "1a 2b"))
	recs := []string{"\x01\x09\x01", "\x02\x01\x01\x01a", "\x02\x02\x02\x01b"}
	see("Write", 3, 3, files{"log-1": told(0, recs...)})
	x.sync()
	see("Sync", 3, 0, files{"log-1": told(0, recs...)})
	x.sync()
	see("Sync again", 3, 0, files{"log-1": told(0, recs...)})
	x.write(log(1, 1, "s", "2b 2c"))
	recs = append(recs, "\x03\x01\x01\x01s", "\x02\x03\x02\x01c")
	see("Write", 5, 2, files{"log-1": told(0, recs...)})
	x.pack()
	recs = []string{"\x01\x09\x01", "\x03\x01\x01\x01s", "\x02\x02\x02\x01b", "\x02\x03\x02\x01c"}
	see("Pack", 4, 0, files{"log-2": told(4, recs...)})
	x.pack()
	see("Pack again", 4, 0, files{"log-3": told(4, recs...)})
	x.write(log(1, 1, "s", ""))
	recs = append(recs, "\x04\x01")
	see("Write", 5, 1, files{"log-3": told(4, recs...)})
	x.write(with(node(), 0, 0))
	see("Write of nothing", 7, 3, files{"log-3": told(4, append(recs, "\x01\x00\x00", "\x03\x00\x00\x00")...)})
	x.pack()
	see("Pack of nothing", 0, 0, files{"log-4": laid()})
}

// What Pack lays, from nothing to what is kept.
func TestPackedRecords(t *testing.T) {
	for _, c := range []struct {
		r    api.Raft
		recs []string
	}{
		{node(), nil},
		{with(node(), 1, 0), []string{"\x01\x01\x00"}},
		{with(node(), 0, 3), []string{"\x01\x00\x03"}},
		{based(node(), 0, 0, "s"), []string{"\x03\x00\x00\x01s"}},
		{based(node(), 3, 0, ""), []string{"\x03\x03\x00\x00"}},
		{based(with(node(), 2, 0), 3, 2, ""), []string{"\x01\x02\x00", "\x03\x03\x02\x00"}},
		{based(with(node(), 2, 0), 0, 0, "", 1), []string{"\x01\x02\x00", "\x02\x01\x01\x00"}},
		{based(with(node(), 2, 0), 0, 0, "s", 1, 2), []string{"\x01\x02\x00", "\x03\x00\x00\x01s", "\x02\x01\x01\x00", "\x02\x02\x02\x00"}},
		{based(with(node(), 2, 1), 9, 0, "s", 1, 2), []string{"\x01\x02\x01", "\x03\x09\x00\x01s", "\x02\x0a\x01\x00", "\x02\x0b\x02\x00"}},
	} {
		x := deskOf(t)
		x.write(log(4, 2, "old", "3a 5b 9c")) // of which nothing is left
		x.write(c.r)
		x.pack()
		wantFiles(t, "P15.2: Pack of "+toldNode(c.r), x.d, files{"log-2": laid(c.recs...)})
		x.crash(0, 0)
		wantNode(t, "P15.3: Pack", x.kept, raft.Restart(c.r))
	}
}

// Much is written, synced and packed, again and again.
func TestMuch(t *testing.T) {
	x := deskOf(t)
	r := with(node(), 1, 1)
	for i := range 300 {
		r.Trail.Entries = append(r.Trail.Entries, api.Entry{Term: r.Term, Data: strconv.Itoa(i)})
		if i%7 == 0 {
			r.Term++
			r.Vote = i % 4
		}
		x.write(r)
		x.write(r)
		if i%3 == 0 {
			x.sync()
		}
		if i%50 == 49 {
			x.pack()
			want := len(r.Trail.Entries) + 1
			if r.Snap != "" {
				want++
			}
			if got := x.s.Count(); got != want {
				t.Errorf("P15.2: Pack: %d records, want %d", got, want)
			}
		}
		if i%70 == 69 {
			r.Commit = lastOf(r.Trail)
			r, _ = raft.Compact(r, r.Commit-20, "s"+strconv.Itoa(i))
		}
	}
	x.sync()
	x.crash(0, 0)
	wantNode(t, "P15.3: much", x.kept, raft.Restart(r))
	many := with(node(), 200, 1, slices.Repeat([]int64{2}, api.MaxLog)...)
	x.write(many)
	x.pack()
	if x.s.Count() != api.MaxLog+1 {
		t.Errorf("P15.2: Pack of MaxLog entries: %d records", x.s.Count())
	}
	x.pack()
	x.crash(0, 0)
	wantNode(t, "P15.3: MaxLog entries", x.kept, many)
}

// afterFull looks at a store that the log has refused a record: it is of no use, and does nothing more to the disk.
func (x *desk) afterFull() {
	x.t.Helper()
	for _, r := range []api.Raft{x.kept, node(), with(node(), 5, 1), log(0, 0, "", "1a 2b 3c")} {
		wantErrno(x.t, "P15.2: Write behind a refused one", x.write(r), api.ErrFull)
	}
	wantErrno(x.t, "P15.2: Write of a wrong node behind a refused one", x.write(api.Raft{}), api.ErrState)
	wantErrno(x.t, "P15.2: Write of another node behind a refused one", x.write(fresh(2, three)), api.ErrState)
	wantErrno(x.t, "P15.2: Pack behind a refused Write", x.pack(), api.ErrFull)
	x.sync() // refused, as desk has it
	x.look()
}

func TestWriteOnAFullDisk(t *testing.T) {
	begin := log(0, 0, "", "1a 2b")
	for _, to := range []api.Raft{with(node(), 10, 2), log(0, 0, "", "1a"), log(0, 0, "", "1a 2b 3c"), log(2, 2, "s", "3c 4dd 5eee"), log(0, 0, "", "1a 2x 3y 9zz"), log(1, 1, "s", "3c")} {
		recs := paperWritten(begin, to)
		need := len(told(0, recs...)) - len(told(0))
		for space := range need + 2 {
			x := deskOf(t)
			x.write(begin)
			x.sync()
			x.others = files{"filler": strings.Repeat("f", x.space()-space)}
			x.d.Append("filler", []byte(x.others["filler"]))
			x.d.Sync("filler")
			got := x.write(to)
			if space >= need {
				wantErrno(t, "P15.2: Write that fills a disk", got, api.OK)
				x.sync()
				x.crash(0, 0)
				wantNode(t, "P15.3: what fills a disk", x.kept, raft.Restart(to))
				continue
			}
			wantErrno(t, "P15.2: Write on a full disk", got, api.ErrFull)
			x.afterFull()
			x.d.Remove("filler")
			x.others = nil
			x.afterFull() // there is room again, but the log lacks a record
			wantBeginning(t, x, begin, recs)
		}
	}
}

// wantBeginning opens a desk behind a crash that keeps what a refused Write left: what a beginning of its records makes.
func wantBeginning(t *testing.T, x *desk, begin api.Raft, recs []string) {
	t.Helper()
	whole := x.recs[x.synced:]
	if !slices.Equal(whole, recs[:len(whole)]) {
		t.Errorf("P15.2: %s were written, want a beginning of %s", toldRecs(whole), toldRecs(recs))
	}
	if !x.crash(len(whole), 0) {
		t.Errorf("P15.3: a beginning doesn't fit: %s", toldRecs(whole))
	}
	want, _ := paperOpen(begin.Id, begin.Conf, slices.Concat(paperWritten(node(), begin), whole))
	wantNode(t, "P15.3: a beginning of what was written", x.kept, want)
	wantErrno(t, "P15.2: Write behind Open", x.write(begin), api.OK)
	x.sync()
	x.pack()
	x.crash(0, 0)
}

// A record that a full disk refuses is told even if smaller ones behind it would find room.
func TestWriteOfALongOneAmongShortOnes(t *testing.T) {
	x := newDesk(t, 1, three, filler(nil, 300))
	r := with(node(), 1, 1)
	r.Trail.Entries = []api.Entry{{Term: 1, Data: "a"}, {Term: 1, Data: strings.Repeat("d", 400)}, {Term: 1, Data: "b"}}
	wantErrno(t, "P15.2: Write of a long one", x.write(r), api.ErrFull)
	if x.s.Count() != 2 {
		t.Errorf("P15.2: %d records, want the two ahead of the long one", x.s.Count())
	}
	x.afterFull()
	s, got, err := openLent(t, x.d, 1, three)
	want := with(node(), 1, 1, 1)
	want.Trail.Entries[0].Data = "a"
	if err != api.OK || s.Count() != 2 {
		t.Errorf("P15.3: error %d", err)
	}
	wantNode(t, "P15.3: what was ahead of the long one", got, want)
}

// A big node is refused by a disk that it doesn't fit on.
func TestWriteOfTooMuch(t *testing.T) {
	x := deskOf(t)
	r := with(node(), 1, 1)
	for range api.MaxLog {
		r.Trail.Entries = append(r.Trail.Entries, api.Entry{Term: 1, Data: strings.Repeat("d", api.MaxData)})
	}
	wantErrno(t, "P15.2: Write of too much", x.write(r), api.ErrFull)
	if x.s.Count() < 200 || x.s.Count() > 256 {
		t.Errorf("P15.2: %d records of 4 KiB on a disk of 1 MiB", x.s.Count())
	}
	x.afterFull()
}

// Where the log can't be laid anew, all is as it was, and may go on.
func TestPackOnAFullDisk(t *testing.T) {
	r := log(3, 2, "s", "2a 3b")
	need := len(laid(paperWritten(node(), r)...))
	more := log(3, 2, "s", "2a 3b 9c")
	for space := range need + 2 {
		x := deskOf(t)
		x.write(log(0, 0, "", "1x 2y 2z 2a"))
		x.sync()
		x.write(r)
		x.others = files{"filler": strings.Repeat("f", x.space()-space)}
		x.d.Append("filler", []byte(x.others["filler"]))
		waits := x.d.Waiting()
		x.d.Sync("filler")
		if space >= need {
			wantErrno(t, "P15.2: Pack that fills a disk", x.pack(), api.OK)
			x.crash(0, 0)
			wantNode(t, "P15.3: Pack that fills a disk", x.kept, raft.Restart(r))
			continue
		}
		for range 2 {
			wantErrno(t, "P15.2: Pack on a full disk", x.pack(), api.ErrFull)
		}
		if x.d.Waiting() != waits-1 {
			t.Errorf("P15.2: Pack on a full disk: %d writes wait, want %d", x.d.Waiting(), waits-1)
		}
		x.d.Remove("filler")
		x.others = nil
		wantErrno(t, "P15.2: Write behind a refused Pack", x.write(more), api.OK)
		x.sync()
		if space%2 == 0 {
			wantErrno(t, "P15.2: Pack behind a refused one", x.pack(), api.OK)
		}
		x.crash(0, 0)
		wantNode(t, "P15.3: behind a refused Pack", x.kept, raft.Restart(more))
	}
}

func TestPackWhereNoFileCanBe(t *testing.T) {
	x := newDesk(t, 1, three, fill(nil, api.MaxFiles-1))
	x.write(log(3, 2, "s", "2a 3b"))
	wantErrno(t, "P15.2: Pack on a disk full of files", x.pack(), api.ErrFull)
	x.sync()
	x.crash(0, 0)
	x.d.Remove("f0")
	delete(x.others, "f0")
	wantErrno(t, "P15.2: Pack on a disk with one file more", x.pack(), api.OK)
	x.crash(0, 0)

	recs := paperWritten(node(), log(3, 2, "s", "2a 3b"))
	for _, number := range []int{999999998, 999999999} {
		x := &desk{t: t, d: diskOf(t, files{"log-" + strconv.Itoa(number): laid(recs...)}), id: 1, conf: three, number: number, laid: len(recs), synced: len(recs), recs: recs}
		x.open()
		x.write(log(3, 2, "s", "2a 3b 9c"))
		want := api.OK
		if number == 999999999 {
			want = api.ErrFull
		}
		wantErrno(t, "P15.2: Pack into the last file", x.pack(), want)
		x.write(log(3, 2, "s", "2a"))
		wantErrno(t, "P15.2: Pack past the last file", x.pack(), api.ErrFull)
		x.sync()
		x.crash(0, 0)
	}
}

// What the disk refuses the log to be synced is told.
func TestSyncOfALogThatIsGone(t *testing.T) {
	x := deskOf(t)
	x.write(with(node(), 3, 1))
	x.d.Remove("log-1")
	wantErrno(t, "P15.2: Sync of a log that is gone", x.s.Sync(), api.ErrFull)
}

// Calls that only look, and those that are refused, change nothing.
func TestLookingChangesNothing(t *testing.T) {
	x := deskOf(t)
	x.write(log(0, 0, "", "1a 2b"))
	x.sync()
	x.write(log(0, 0, "", "1a 2b 9c"))
	for range 3 {
		x.look()
		x.write(api.Raft{})
		x.write(fresh(2, three))
		if _, _, err := store.Open(x.d, 4, three); err != api.ErrArg {
			t.Errorf("P15.1: %d", err)
		}
		x.look()
	}
	x.crash(0, 4)
}
