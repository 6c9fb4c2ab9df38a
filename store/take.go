package store

import (
	"matins/api"
	"matins/raft"
)

// take does to what is kept, which is right, what a record says, and tells whether the record fits. What one that doesn't fit leaves is of no use.
func take(k *api.Raft, rec []byte) bool {
	f, ok := read(rec)
	if !ok {
		return false
	}
	stays := last(k.Trail) // up to which number the log is as right as it was
	switch f[0].N {
	case kindVote:
		k.Term, k.Vote = f[1].N, int(f[2].N)
	case kindEntry:
		stays = f[1].N - 1
		if !has(k.Trail, stays) {
			return false
		}
		k.Trail.Entries = append(upTo(k.Trail, stays), api.Entry{Term: f[2].N, Data: f[3].S})
	case kindBase:
		k.Trail, k.Snap = rebased(k.Trail, f[1].N, f[2].N), f[3].S
		stays = last(k.Trail) // of a log without entries its base, which is looked at
	case kindEnd:
		stays = f[1].N
		if !has(k.Trail, stays) {
			return false
		}
		k.Trail.Entries = upTo(k.Trail, stays)
	}
	return rightBehind(*k, stays)
}

// rightBehind tells whether what is kept is that of a right node, if its log is right up to the number n. To go through that part at each record would take long: a log may have many times as many records as entries.
func rightBehind(k api.Raft, n int64) bool {
	if len(k.Trail.Entries) > api.MaxLog {
		return false
	}
	k.Trail = cut(k.Trail, n)
	return raft.Check(raft.Restart(k))
}

// rebased is a log with the base n: what it has behind that number stays only if the entry there has this term.
func rebased(t api.Trail, n, term int64) api.Trail {
	if has(t, n) && termAt(t, n) == term {
		return cut(t, n)
	}
	return api.Trail{Base: n, BaseTerm: term}
}

// The functions below share memory with the log that they are asked of, and answer of numbers that it has (has: of all).

// has tells whether a log knows the term of the entry number n, as it does of its base.
func has(t api.Trail, n int64) bool { return n >= t.Base && n <= last(t) }

func last(t api.Trail) int64 { return t.Base + int64(len(t.Entries)) }

func termAt(t api.Trail, n int64) int64 {
	if n == t.Base {
		return t.BaseTerm
	}
	return t.Entries[n-t.Base-1].Term
}

// upTo is a log's entries up to the number n.
func upTo(t api.Trail, n int64) []api.Entry { return t.Entries[:n-t.Base] }

// cut is a log with the entry number n as its base.
func cut(t api.Trail, n int64) api.Trail {
	return api.Trail{Base: n, BaseTerm: termAt(t, n), Entries: t.Entries[n-t.Base:]}
}
