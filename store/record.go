package store

import (
	"matins/api"
	"matins/code"
)

// The kinds of records.
const (
	kindVote  = 1 // term, vote
	kindEntry = 2 // n, term, data
	kindBase  = 3 // n, term, snap
	kindEnd   = 4 // n
)

// read is a record's fields; false: they aren't those of a kind.
func read(rec []byte) ([]api.Field, bool) {
	if len(rec) == 0 {
		return nil, false
	}
	fields, err := code.Decode(shape(rec[0]), rec) // each kind is a number of one byte
	return fields, err == api.OK
}

// shape is which fields a record of a kind has: none, if there is no such kind.
func shape(kind byte) []int {
	switch kind {
	case kindVote:
		return []int{api.Num, api.Num, api.Num}
	case kindEntry, kindBase:
		return []int{api.Num, api.Num, api.Num, api.Text}
	case kindEnd:
		return []int{api.Num, api.Num}
	}
	return nil
}

// written is the records that lead from what is kept to what a node has.
func written(from, to api.Raft) [][]byte {
	var recs [][]byte
	if from.Term != to.Term || from.Vote != to.Vote {
		recs = append(recs, record(num(kindVote), num(to.Term), num(int64(to.Vote))))
	}
	log, base, term := from.Trail, to.Trail.Base, to.Trail.BaseTerm
	if log.Base != base || log.BaseTerm != term || from.Snap != to.Snap {
		recs = append(recs, record(num(kindBase), num(base), num(term), text(to.Snap)))
		log = rebased(log, base, term)
	}
	return append(recs, writtenEntries(log, to.Trail)...)
}

// writtenEntries is the records that lead from a log to another one with the same base.
func writtenEntries(from, to api.Trail) [][]byte {
	same := agreeing(from.Entries, to.Entries)
	if same == len(to.Entries) && same < len(from.Entries) {
		return [][]byte{record(num(kindEnd), num(last(to)))}
	}
	var recs [][]byte
	n := to.Base + int64(same)
	for _, e := range to.Entries[same:] {
		n++
		recs = append(recs, record(num(kindEntry), num(n), num(e.Term), text(e.Data)))
	}
	return recs
}

// agreeing is how many entries of two lists are the same, from the first on.
func agreeing(a, b []api.Entry) int {
	n := 0
	for n < len(a) && n < len(b) && a[n] == b[n] {
		n++
	}
	return n
}

// record is the bytes of fields. What a right node has can always be written: no number is below 0, and no text is too long.
func record(fields ...api.Field) []byte {
	b, _ := code.Encode(fields)
	return b
}

func num(n int64) api.Field { return api.Field{Kind: api.Num, N: n} }

func text(s string) api.Field { return api.Field{Kind: api.Text, S: s} }
