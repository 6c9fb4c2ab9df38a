package seat_test

import (
	"math"
	"slices"
	"strings"
	"testing"

	"matins/api"
)

var (
	wrongClients = []int{0, -1, api.MaxClients + 1, 66, math.MinInt, math.MaxInt, 1<<32 + 1, -1<<32 + 1, 257, 256 + 64}
	wrongSeqs    = []int64{0, -1, -2, math.MinInt64, math.MinInt64 + 1, -1<<32 + 1}
	rightSeqs    = []int64{1, 2, math.MaxInt32, 1 << 32, 1 << 40, math.MaxInt64 - 1, math.MaxInt64}
)

// results are of any kind: errors that there are and that there aren't, times, jobs that are right and that aren't.
func results() []api.Result {
	right := api.Job{Name: "a", Expr: "0 0 * * *", Zone: "utc", Token: "tok", Client: 1, Seq: 1, Mark: 100}
	later := right
	later.Name, later.Paused = "b", true
	wrong := api.Job{Name: "A b", Expr: "x", Zone: "mars", Token: strings.Repeat("t", 33), Client: 65, Seq: -1, Mark: -2}
	return []api.Result{
		{}, {Err: api.ErrArg}, {Err: api.ErrMiss}, {Err: api.ErrNone}, {Err: -1}, {Err: 12345}, {Err: math.MaxInt}, {Time: 1440}, {Time: -1}, {Time: math.MinInt64}, {Time: math.MaxInt64},
		{Jobs: []api.Job{}}, {Jobs: []api.Job{right}}, {Jobs: []api.Job{right, later}}, {Jobs: []api.Job{later, right}}, {Jobs: []api.Job{right, right}}, {Jobs: []api.Job{{}}}, {Jobs: []api.Job{wrong}},
		{Jobs: []api.Job{right, wrong, later}}, {Jobs: slices.Repeat([]api.Job{right}, api.MaxJobs+1)}, {Err: api.ErrState, Time: 7, Jobs: []api.Job{right, later}},
	}
}

func TestCheckLengths(t *testing.T) {
	wantCheck(t, nil, true)
	wantCheck(t, []api.Seen{}, true)
	for n := 1; n <= api.MaxClients; n++ {
		wantCheck(t, bookOf(1, n, upTo(1, n)...), true)
		wantCheck(t, bookOf(5, n, upTo(n, api.MaxClients)...), true)
		wantCheck(t, bookOf(5, n, n), true)
	}
	full := upTo(1, api.MaxClients)
	wantCheck(t, bookOf(1, 0, append(full, api.MaxClients+1)...), false)
	wantCheck(t, bookOf(1, 0, append([]int{0}, full...)...), false)
	for _, i := range []int{0, 1, 30, 62, 63} {
		wantCheck(t, bookOf(1, 0, slices.Insert(slices.Clone(full), i, full[i])...), false)
	}
	wantCheck(t, bookOf(1, 0, append(full, full...)...), false)
	wantCheck(t, make([]api.Seen, 1), false)
	wantCheck(t, make([]api.Seen, api.MaxClients+1), false)
}

// Of two sessions each two Clients.
func TestCheckPairs(t *testing.T) {
	for a := -1; a <= api.MaxClients+2; a++ {
		wantCheck(t, bookOf(3, a+1, a), 1 <= a && a <= api.MaxClients)
		for b := -1; b <= api.MaxClients+2; b++ {
			wantCheck(t, bookOf(3, a+1, a, b), 1 <= a && a < b && b <= api.MaxClients)
		}
	}
}

// Clients that come twice, or fall, anywhere in a book.
func TestCheckRises(t *testing.T) {
	for _, n := range []int{2, 3, 10, api.MaxClients} {
		book := bookOf(4, n, upTo(1, n)...)
		for i := range n - 1 {
			wantCheck(t, with(book, i, book[i+1]), false)
			wantCheck(t, with(book, i+1, book[i]), false)
			swapped := slices.Clone(book)
			swapped[i], swapped[i+1] = swapped[i+1], swapped[i]
			wantCheck(t, swapped, false)
			wantCheck(t, slices.Delete(slices.Clone(book), i, i+1), true)
		}
		slices.Reverse(book)
		wantCheck(t, book, false)
	}
	for _, r := range []struct {
		clients []int
		want    bool
	}{
		{[]int{1, 3, 64}, true}, {[]int{1, 2, 1}, false}, {[]int{1, 3, 2}, false}, {[]int{2, 1, 3}, false}, {[]int{1, 3, 3, 4}, false}, {[]int{5, 6, 7, 5}, false},
		{[]int{2, 2}, false}, {[]int{64, 1}, false}, {[]int{9, 10, 11}, true}, {[]int{10, 9}, false},
	} {
		wantCheck(t, bookOf(4, 0, r.clients...), r.want)
	}
}

// Each field at its limits, one past them and otherwise wrong, of the first session, the last and one between.
func TestCheckFields(t *testing.T) {
	for _, book := range [][]api.Seen{bookOf(4, 0, 7), bookOf(4, 0, 2, 7, 20), bookOf(4, 0, upTo(1, api.MaxClients)...)} {
		for _, i := range []int{0, len(book) / 2, len(book) - 1} {
			s := book[i]
			for _, s.Client = range wrongClients {
				wantCheck(t, with(book, i, s), false)
			}
			s = book[i]
			for _, s.Seq = range wrongSeqs {
				wantCheck(t, with(book, i, s), false)
			}
			for _, s.Seq = range rightSeqs {
				wantCheck(t, with(book, i, s), true)
			}
			for _, s.Result = range results() {
				wantCheck(t, with(book, i, s), true)
			}
		}
	}
}

// The numbers of different clients have nothing to do with each other.
func TestCheckSeqsOfOthers(t *testing.T) {
	for _, seqs := range [][]int64{{1, 1, 1}, {3, 2, 1}, {1, 2, 3}, {math.MaxInt64, 1, math.MaxInt64}} {
		var book []api.Seen
		for i, seq := range seqs {
			book = append(book, seen(1+i, seq, i))
		}
		wantCheck(t, book, true)
	}
}

// noBooks are lists that are no books, each by one thing.
func noBooks() [][]api.Seen {
	all := [][]api.Seen{
		{{}}, bookOf(4, 0, 3, 3), bookOf(4, 0, 3, 2), bookOf(4, 0, 1, 2, 2), bookOf(4, 0, 1, 3, 2), bookOf(4, 0, 1, 2, 1),
		bookOf(4, 0, upTo(1, api.MaxClients+1)...), bookOf(4, 0, upTo(0, api.MaxClients)...),
		{seen(3, 1, 1), seen(3, 2, 2)}, {seen(3, 2, 1), seen(3, 1, 2)},
	}
	book := bookOf(4, 0, 2, 7, 20)
	for i := range book {
		for _, client := range wrongClients {
			all = append(all, with(book, i, seen(client, 4, 1)))
		}
		for _, seq := range wrongSeqs {
			all = append(all, with(book, i, seen(book[i].Client, seq, 1)))
		}
	}
	return all
}

// Of a list that is no book: ErrState and nothing else, whatever is beside it.
func TestNoBooks(t *testing.T) {
	books := [][]api.Seen{nil, {}, bookOf(4, 0, 2), bookOf(9, 3, 1, 2, 3), bookOf(1, 1, upTo(1, api.MaxClients)...)}
	for _, bad := range noBooks() {
		wantCheck(t, bad, false)
		for _, client := range []int{-1, 0, 1, 2, 3, 7, 20, 64, 65} {
			for _, seq := range []int64{-1, 0, 1, 4, 5} {
				noLook(t, bad, client, seq, api.ErrState)
				noPut(t, bad, seen(client, seq, 3), api.ErrState)
			}
		}
		for _, book := range books {
			noJoin(t, bad, book, api.ErrState)
			noJoin(t, book, bad, api.ErrState)
		}
		noJoin(t, bad, bad, api.ErrState)
	}
	for _, a := range noBooks() {
		for _, b := range noBooks()[:10] {
			noJoin(t, a, b, api.ErrState)
		}
	}
}
