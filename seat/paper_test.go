package seat_test

import (
	"slices"

	"matins/api"
)

// The paper reads the chapter plainly, sentence by sentence. What it answers may share memory with what it is given.

func paperCheck(book []api.Seen) bool {
	last := 0
	for _, s := range book {
		if s.Client <= last || s.Client > 64 || s.Seq <= 0 {
			return false
		}
		last = s.Client
	}
	return true
}

// paperOf is a client's session, if it has one.
func paperOf(book []api.Seen, client int) (api.Seen, bool) {
	for _, s := range book {
		if s.Client == client {
			return s, true
		}
	}
	return api.Seen{}, false
}

func paperMay(client int, seq int64) bool { return 1 <= client && client <= 64 && 1 <= seq }

func paperLook(book []api.Seen, client int, seq int64) (api.Result, api.Errno) {
	if !paperCheck(book) {
		return api.Result{}, api.ErrState
	}
	if !paperMay(client, seq) {
		return api.Result{}, api.ErrArg
	}
	s, ok := paperOf(book, client)
	if !ok || s.Seq < seq {
		return api.Result{}, api.ErrNone
	}
	if s.Seq > seq {
		return api.Result{}, api.ErrStale
	}
	return s.Result, api.OK
}

func paperPut(book []api.Seen, s api.Seen) ([]api.Seen, api.Errno) {
	if !paperCheck(book) {
		return nil, api.ErrState
	}
	if !paperMay(s.Client, s.Seq) {
		return nil, api.ErrArg
	}
	if old, ok := paperOf(book, s.Client); ok && old.Seq >= s.Seq {
		return nil, api.ErrStale
	}
	behind := slices.DeleteFunc(slices.Clone(book), func(old api.Seen) bool { return old.Client == s.Client })
	behind = append(behind, s)
	slices.SortFunc(behind, func(a, b api.Seen) int { return a.Client - b.Client })
	return behind, api.OK
}

func paperJoin(a, b []api.Seen) ([]api.Seen, api.Errno) {
	if !paperCheck(a) || !paperCheck(b) {
		return nil, api.ErrState
	}
	var both []api.Seen
	for client := 1; client <= 64; client++ {
		ofA, inA := paperOf(a, client)
		ofB, inB := paperOf(b, client)
		switch {
		case inA && inB && ofB.Seq > ofA.Seq, !inA && inB:
			both = append(both, ofB)
		case inA:
			both = append(both, ofA)
		}
	}
	return both, api.OK
}
