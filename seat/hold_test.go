package seat_test

import (
	"fmt"
	"slices"
	"strings"
	"testing"

	"matins/api"
	"matins/seat"
)

const spare = 2 // places of spare room behind each list that is handed in

var (
	lentJob   = api.Job{Name: "room", Client: -7}
	spoiltJob = api.Job{Name: "spoilt", Seq: -8}
)

// withRoom is a list in new memory with spare room that is filled; nil stays nil.
func withRoom[T any](list []T, room T) []T {
	if list == nil {
		return nil
	}
	all := make([]T, len(list), len(list)+spare)
	copy(all, list)
	for i := range spare {
		all[:cap(all)][len(list)+i] = room
	}
	return all
}

// lend is a book in new memory, with jobs in new memory, and spare room behind each list.
func lend(book []api.Seen) []api.Seen {
	room := api.Seen{Client: -7, Result: api.Result{Jobs: withRoom([]api.Job{lentJob}, lentJob)}}
	lent := withRoom(book, room)
	for i := range lent {
		lent[i].Result.Jobs = withRoom(lent[i].Result.Jobs, lentJob)
	}
	return lent
}

func sameResult(a, b api.Result) bool {
	return a.Err == b.Err && a.Time == b.Time && slices.Equal(a.Jobs, b.Jobs)
}

func sameSeen(a, b api.Seen) bool {
	return a.Client == b.Client && a.Seq == b.Seq && sameResult(a.Result, b.Result)
}

func sameBook(a, b []api.Seen) bool { return slices.EqualFunc(a, b, sameSeen) }

func whole[T any](list []T) []T { return list[:cap(list)] }

// stays tells whether a book that was lent is as it was lent, its spare room and that of its jobs too.
func stays(lent, book []api.Seen) bool {
	fresh := lend(book)
	return sameBook(lent, fresh) && slices.EqualFunc(whole(lent), whole(fresh), func(a, b api.Seen) bool {
		return sameSeen(a, b) && slices.Equal(whole(a.Result.Jobs), whole(b.Result.Jobs))
	})
}

func spoil[T any](list []T, with T) {
	list = whole(list)
	for i := range list {
		list[i] = with
	}
}

// spoilBook writes over a book, the jobs in it, and the spare room of both: whoever shares memory with it shows that.
func spoilBook(book []api.Seen) {
	for _, s := range whole(book) {
		spoil(s.Result.Jobs, spoiltJob)
	}
	spoil(book, api.Seen{Client: -8, Seq: -8, Result: api.Result{Jobs: []api.Job{spoiltJob}}})
}

// apart writes over the jobs of each session, spare room too, with a mark of its own; if a mark is gone then, two lists share memory.
func apart(book []api.Seen) bool {
	for i, s := range book {
		spoil(s.Result.Jobs, api.Job{Mark: int64(-i)})
	}
	for i, s := range book {
		for _, j := range whole(s.Result.Jobs) {
			if j != (api.Job{Mark: int64(-i)}) {
				return false
			}
		}
	}
	return true
}

func copied(book []api.Seen) []api.Seen {
	book = slices.Clone(book)
	for i := range book {
		book[i].Result.Jobs = slices.Clone(book[i].Result.Jobs)
	}
	return book
}

func told(book []api.Seen) string {
	var all strings.Builder
	fmt.Fprintf(&all, "%d sessions", len(book))
	for i, s := range book {
		if i == 8 {
			return all.String() + " .."
		}
		fmt.Fprintf(&all, " {%d %d [error %d, time %d, %d jobs %.80s]}", s.Client, s.Seq, s.Result.Err, s.Result.Time, len(s.Result.Jobs), fmt.Sprint(s.Result.Jobs))
	}
	return all.String()
}

// answer is what a call answers; the Result that Look tells stands in a session of no client.
type answer struct {
	book []api.Seen
	err  api.Errno
}

func (a answer) same(b answer) bool { return sameBook(a.book, b.book) && a.err == b.err }

func (a answer) told() string { return fmt.Sprintf("%s, error %d", told(a.book), a.err) }

func ofLook(r api.Result, err api.Errno) answer { return answer{[]api.Seen{{Result: r}}, err} }

func ofBook(book []api.Seen, err api.Errno) answer { return answer{book, err} }

// hold makes a call with what it lends, holds it against the paper, and looks whether the call leaves what it is lent, answers the same once more, and shares no memory.
func hold(t testing.TB, name string, want answer, call func([][]api.Seen) answer, books ...[]api.Seen) answer {
	t.Helper()
	title := func() string {
		for _, book := range books {
			name += "; " + told(book)
		}
		return name
	}
	var lent [][]api.Seen
	for _, book := range books {
		lent = append(lent, lend(book))
	}
	first := call(lent)
	got := answer{copied(first.book), first.err}
	if !got.same(want) {
		t.Errorf("%s:\n     %s,\nwant %s", title(), got.told(), want.told())
	}
	second := call(lent)
	for i := range lent {
		if !stays(lent[i], books[i]) {
			t.Errorf("rule 5: %s: what is lent is changed: %s", title(), told(whole(lent[i])))
		}
		spoilBook(lent[i])
	}
	if !first.same(got) {
		t.Errorf("rule 5: %s: the answer shares memory with an argument", title())
	}
	if !apart(first.book) {
		t.Errorf("rule 5: %s: two lists of the answer share memory", title())
	}
	spoilBook(first.book)
	if !second.same(got) {
		t.Errorf("rules 5, 6: %s: once more: %s", title(), second.told())
	}
	return got
}

func look(t testing.TB, book []api.Seen, client int, seq int64) (api.Result, api.Errno) {
	t.Helper()
	call := func(lent [][]api.Seen) answer { return ofLook(seat.Look(lent[0], client, seq)) }
	got := hold(t, fmt.Sprintf("P17.2: Look(.., %d, %d)", client, seq), ofLook(paperLook(book, client, seq)), call, book)
	return got.book[0].Result, got.err
}

func put(t testing.TB, book []api.Seen, s api.Seen) ([]api.Seen, api.Errno) {
	t.Helper()
	call := func(lent [][]api.Seen) answer { return ofBook(seat.Put(lent[0], lent[1][0])) }
	got := hold(t, "P17.3: Put", ofBook(paperPut(book, s)), call, book, []api.Seen{s})
	return got.book, got.err
}

func join(t testing.TB, a, b []api.Seen) ([]api.Seen, api.Errno) {
	t.Helper()
	call := func(lent [][]api.Seen) answer { return ofBook(seat.Join(lent[0], lent[1])) }
	got := hold(t, "P17.4: Join", ofBook(paperJoin(a, b)), call, a, b)
	return got.book, got.err
}

func wantCheck(t testing.TB, book []api.Seen, want bool) {
	t.Helper()
	lent := lend(book)
	if got := seat.Check(lent); got != want || paperCheck(book) != want {
		t.Errorf("P17.1: Check(%s): %t, by the paper %t, want %t", told(book), got, paperCheck(book), want)
	}
	if !stays(lent, book) {
		t.Errorf("rule 5: Check(%s) changes what is lent", told(book))
	}
}

// wantLook is a Look that finds.
func wantLook(t testing.TB, book []api.Seen, client int, seq int64, want api.Result) {
	t.Helper()
	if got, e := look(t, book, client, seq); e != api.OK || !sameResult(got, want) {
		t.Errorf("P17.2: Look(%s, %d, %d): %+v, error %d, want %+v", told(book), client, seq, got, e, want)
	}
}

// noLook is a Look that is refused: nothing but the error is told.
func noLook(t testing.TB, book []api.Seen, client int, seq int64, want api.Errno) {
	t.Helper()
	if got, e := look(t, book, client, seq); e != want || !sameResult(got, api.Result{}) {
		t.Errorf("P17.2: Look(%s, %d, %d): %+v, error %d, want error %d", told(book), client, seq, got, e, want)
	}
}

func wantPut(t testing.TB, book []api.Seen, s api.Seen, want ...api.Seen) {
	t.Helper()
	if got, e := put(t, book, s); e != api.OK || !sameBook(got, want) {
		t.Errorf("P17.3: Put(%s; %s): %s, error %d, want %s", told(book), told([]api.Seen{s}), told(got), e, told(want))
	}
}

func noPut(t testing.TB, book []api.Seen, s api.Seen, want api.Errno) {
	t.Helper()
	if got, e := put(t, book, s); e != want || len(got) != 0 {
		t.Errorf("P17.3: Put(%s; %s): %s, error %d, want error %d", told(book), told([]api.Seen{s}), told(got), e, want)
	}
}

func wantJoin(t testing.TB, a, b []api.Seen, want ...api.Seen) {
	t.Helper()
	if got, e := join(t, a, b); e != api.OK || !sameBook(got, want) {
		t.Errorf("P17.4: Join(%s; %s): %s, error %d, want %s", told(a), told(b), told(got), e, told(want))
	}
}

func noJoin(t testing.TB, a, b []api.Seen, want api.Errno) {
	t.Helper()
	if got, e := join(t, a, b); e != want || len(got) != 0 {
		t.Errorf("P17.4: Join(%s; %s): %s, error %d, want error %d", told(a), told(b), told(got), e, want)
	}
}

// seen is a session whose Result is known by a number, with none, one, two or three jobs.
func seen(client int, seq int64, tag int) api.Seen {
	r := api.Result{Err: api.Errno(tag % 5), Time: int64(tag)}
	for i := range tag % 4 {
		r.Jobs = append(r.Jobs, api.Job{Name: fmt.Sprint("j", tag, ".", i), Expr: "0 0 * * *", Zone: "utc", Client: client, Seq: seq, Mark: int64(tag)})
	}
	return api.Seen{Client: client, Seq: seq, Result: r}
}

// bookOf is the book of some clients, each with the same Seq, known by numbers from a tag on.
func bookOf(seq int64, tag int, clients ...int) []api.Seen {
	var book []api.Seen
	for i, client := range clients {
		book = append(book, seen(client, seq, tag+i))
	}
	return book
}

// upTo are the numbers from one to another.
func upTo(from, to int) []int {
	var all []int
	for n := from; n <= to; n++ {
		all = append(all, n)
	}
	return all
}

// with is a book with another session at a place.
func with(book []api.Seen, i int, s api.Seen) []api.Seen {
	book = slices.Clone(book)
	book[i] = s
	return book
}
