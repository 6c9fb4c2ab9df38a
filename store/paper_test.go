package store_test

import (
	"encoding/binary"
	"hash/crc32"
	"math"
	"slices"
	"strings"

	"matins/api"
	"matins/raft"
)

const top = 1 << 40

// The paper reads the chapter plainly, sentence by sentence, with chapters 3 and 10 by the library's means.

func uvarint(n uint64) string { return string(binary.AppendUvarint(nil, n)) }

// nums is the bytes of Nums.
func nums(list ...int64) string {
	s := ""
	for _, n := range list {
		s += uvarint(uint64(n))
	}
	return s
}

// str is the bytes of a Text.
func str(s string) string { return uvarint(uint64(len(s))) + s }

func recVote(term int64, vote int) string { return nums(1, term, int64(vote)) }

func recEntry(n, term int64, data string) string { return nums(2, n, term) + str(data) }

func recBase(n, term int64, snap string) string { return nums(3, n, term) + str(snap) }

func recEnd(n int64) string { return nums(4, n) }

// recEntries is the records of entries without data, from a number on.
func recEntries(n int64, terms ...int64) []string {
	var recs []string
	for i, term := range terms {
		recs = append(recs, recEntry(n+int64(i), term, ""))
	}
	return recs
}

func frame(s string) string {
	b := append(binary.AppendUvarint(nil, uint64(len(s))), s...)
	return string(binary.LittleEndian.AppendUint32(b, crc32.ChecksumIEEE(b)))
}

// told is a log's file that was laid with the first n of some records.
func told(n int, recs ...string) string {
	var all strings.Builder
	all.WriteString(frame(nums(int64(n))))
	for _, rec := range recs {
		all.WriteString(frame(rec))
	}
	return all.String()
}

func laid(recs ...string) string { return told(len(recs), recs...) }

// reader reads fields from the front, and notes if one isn't there.
type reader struct {
	rest string
	bad  bool
}

func (r *reader) num() int64 {
	n, size := binary.Uvarint([]byte(r.rest))
	if size <= 0 || uvarint(n) != r.rest[:size] || n > math.MaxInt64 {
		r.bad = true
		return 0
	}
	r.rest = r.rest[size:]
	return int64(n)
}

func (r *reader) text() string {
	n := r.num()
	if r.bad || n > 65536 || n > int64(len(r.rest)) {
		r.bad = true
		return ""
	}
	s := r.rest[:n]
	r.rest = r.rest[n:]
	return s
}

func lastOf(t api.Trail) int64 { return t.Base + int64(len(t.Entries)) }

// entryAt is the entry of a number; false: the log has none there, but may know its term.
func entryAt(t api.Trail, n int64) (api.Entry, bool) {
	if n <= t.Base || n > lastOf(t) {
		return api.Entry{}, false
	}
	return t.Entries[n-t.Base-1], true
}

func knows(t api.Trail, n, term int64) bool {
	if n == t.Base {
		return term == t.BaseTerm
	}
	e, ok := entryAt(t, n)
	return ok && e.Term == term
}

// paperDo is what a record makes of what is kept, whose memory it takes; false: it hasn't the fields of its kind, or its n is none that the kind takes.
func paperDo(k api.Raft, rec string) (api.Raft, bool) {
	r := reader{rest: rec}
	ok := true
	switch r.num() {
	case 1:
		k.Term, k.Vote = r.num(), int(r.num())
	case 2:
		n, e := r.num(), api.Entry{Term: r.num(), Data: r.text()}
		if n <= k.Trail.Base || n > lastOf(k.Trail)+1 {
			return k, false
		}
		k.Trail.Entries = append(k.Trail.Entries[:n-1-k.Trail.Base], e)
	case 3:
		n, term, snap := r.num(), r.num(), r.text()
		k.Snap = snap
		if knows(k.Trail, n, term) {
			k.Trail.Entries = k.Trail.Entries[n-k.Trail.Base:]
		} else {
			k.Trail.Entries = nil
		}
		k.Trail.Base, k.Trail.BaseTerm = n, term
	case 4:
		n := r.num()
		if n < k.Trail.Base || n > lastOf(k.Trail) {
			return k, false
		}
		k.Trail.Entries = k.Trail.Entries[:n-k.Trail.Base]
	default:
		ok = false
	}
	return k, ok && !r.bad && r.rest == ""
}

// paperTake is what a record makes of what is kept, and whether it fits.
func paperTake(k api.Raft, rec string) (api.Raft, bool) {
	k, ok := paperDo(k, rec)
	k.Commit = k.Trail.Base // all that isn't kept is as raft.Restart leaves it
	return k, ok && raft.Check(k)
}

// fresh is a node of which nothing is kept.
func fresh(id int, conf []int) api.Raft {
	return api.Raft{Id: id, Conf: slices.Clone(conf), Left: 10, Wait: 10}
}

// paperOpen is the node that records make; false: one of them doesn't fit.
func paperOpen(id int, conf []int, recs []string) (api.Raft, bool) {
	k := fresh(id, conf)
	for _, rec := range recs {
		var ok bool
		if k, ok = paperTake(k, rec); !ok {
			return api.Raft{}, false
		}
	}
	return k, true
}

// paperWritten is the records that go from what is kept to what a node has.
func paperWritten(from, to api.Raft) []string {
	var recs []string
	if from.Term != to.Term || from.Vote != to.Vote {
		recs = append(recs, recVote(to.Term, to.Vote))
	}
	log := from.Trail
	if from.Trail.Base != to.Trail.Base || from.Trail.BaseTerm != to.Trail.BaseTerm || from.Snap != to.Snap {
		rec := recBase(to.Trail.Base, to.Trail.BaseTerm, to.Snap)
		recs = append(recs, rec)
		left, _ := paperDo(from, rec)
		log = left.Trail
	}
	for n := to.Trail.Base + 1; n <= max(lastOf(log), lastOf(to.Trail)); n++ {
		a, inLog := entryAt(log, n)
		b, inNode := entryAt(to.Trail, n)
		if inLog && inNode && a == b {
			continue
		}
		if !inNode {
			return append(recs, recEnd(lastOf(to.Trail)))
		}
		for ; n <= lastOf(to.Trail); n++ {
			e, _ := entryAt(to.Trail, n)
			recs = append(recs, recEntry(n, e.Term, e.Data))
		}
		return recs
	}
	return recs
}
