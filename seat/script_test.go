package seat_test

import (
	"cmp"
	"math"
	"math/rand"
	"slices"
	"sync"
	"testing"

	"matins/api"
	"matins/seat"
)

// command is what a client asks with a number.
type command struct {
	client int
	seq    int64
}

// watch looks at answers alone, and holds P17.5 against them.
type watch struct {
	t     testing.TB
	last  map[int]int64      // of each client the number that was put last
	asked map[command]answer // what Look answered, since something was put for the client
}

func newWatch(t testing.TB) *watch {
	return &watch{t, map[int]int64{}, map[command]answer{}}
}

func (w *watch) looked(client int, seq int64, got answer) {
	w.t.Helper()
	c := command{client, seq}
	if was, ok := w.asked[c]; ok && !got.same(was) {
		w.t.Errorf("P17.5: Look(.., %d, %d) answers %s, though none was put: %s ahead", client, seq, got.told(), was.told())
	}
	w.asked[c] = got
}

func (w *watch) put(s api.Seen) {
	w.t.Helper()
	if s.Seq <= w.last[s.Client] {
		w.t.Errorf("P17.5: client %d: %d is put behind %d", s.Client, s.Seq, w.last[s.Client])
	}
	w.last[s.Client] = s.Seq
	for c := range w.asked {
		if c.client == s.Client {
			delete(w.asked, c)
		}
	}
}

func pick[T any](r *rand.Rand, all []T) T { return all[r.Intn(len(all))] }

// some picks mostly from the first list, now and then from the second.
func some[T any](r *rand.Rand, often, seldom []T) T {
	if r.Intn(15) == 0 {
		return pick(r, seldom)
	}
	return pick(r, often)
}

// chance is a session by chance, mostly of a client that may be, near the number that it has.
func chance(r *rand.Rand, book []api.Seen, clients []int) api.Seen {
	client := some(r, clients, wrongClients)
	var near int64 = 1
	if s, ok := paperOf(book, client); ok {
		near = s.Seq
	}
	near = max(1, min(near, math.MaxInt64-9))
	seq := some(r, []int64{near, near + 1, near + 1, near + r.Int63n(9), max(near-1, 1), 1 + r.Int63n(near)}, []int64{0, -1, math.MinInt64, math.MaxInt64 - r.Int63n(40), 1 << 40})
	return seen(client, seq, r.Intn(1000))
}

// serve does what a group does with a command: it looks, and puts what it answers if the command is a new one.
func serve(t testing.TB, w *watch, book []api.Seen, s api.Seen) []api.Seen {
	t.Helper()
	result, e := look(t, book, s.Client, s.Seq)
	w.looked(s.Client, s.Seq, ofLook(result, e))
	if e != api.ErrNone {
		behind, refused := put(t, book, s)
		if refused == api.OK || len(behind) > 0 {
			t.Errorf("P17.5: Look: error %d, but Put takes it", e)
		}
		return book
	}
	behind, refused := put(t, book, s)
	if refused != api.OK {
		t.Errorf("P17.5: Look: ErrNone, but Put: error %d", refused)
		return book
	}
	w.put(s)
	wantCheck(t, behind, true)
	wantLook(t, behind, s.Client, s.Seq, s.Result)
	if s.Seq > 1 {
		noLook(t, behind, s.Client, s.Seq-1, api.ErrStale)
	}
	if s.Seq < math.MaxInt64 {
		noLook(t, behind, s.Client, s.Seq+1, api.ErrNone)
	}
	return behind
}

// again asks for all that was asked: what was put for others changes nothing of it.
func (w *watch) again(book []api.Seen) {
	w.t.Helper()
	for c := range w.asked {
		w.looked(c.client, c.seq, ofLook(seat.Look(book, c.client, c.seq)))
	}
	for client, seq := range w.last {
		if s, ok := paperOf(book, client); !ok || s.Seq != seq {
			w.t.Errorf("P17.3: client %d: the session is %+v, but %d was put last", client, s, seq)
		}
	}
	if len(book) != len(w.last) {
		w.t.Errorf("P17.3: %d sessions of %d clients", len(book), len(w.last))
	}
}

func TestScripts(t *testing.T) {
	all := upTo(1, api.MaxClients)
	for seed := range int64(200) {
		r := rand.New(rand.NewSource(seed))
		clients := all
		if seed%3 > 0 {
			clients = []int{1, pick(r, all), pick(r, all), 64}
		}
		w := newWatch(t)
		var book []api.Seen
		for range 120 {
			book = serve(t, w, book, chance(r, book, clients))
			w.again(book)
			if t.Failed() {
				t.Fatalf("seed %d", seed)
			}
		}
	}
}

// Books that part, go on each by itself, and are joined: each client has its newest session.
func TestScriptsOfTwo(t *testing.T) {
	all := upTo(1, api.MaxClients)
	for seed := range int64(150) {
		r := rand.New(rand.NewSource(seed))
		clients := append([]int{1, 64}, all[:1+r.Intn(len(all))]...)
		books := make([][]api.Seen, 2)
		for range 60 {
			i := r.Intn(2)
			s := chance(r, books[i], clients)
			if behind, e := put(t, books[i], s); e == api.OK {
				books[i] = behind
			}
			if r.Intn(8) > 0 {
				continue
			}
			both, e := join(t, books[0], books[1])
			if e != api.OK {
				t.Fatalf("seed %d: P17.4: error %d", seed, e)
			}
			wantCheck(t, both, true)
			newest(t, both, books)
			books[i] = both
			if r.Intn(3) == 0 {
				books[1-i] = both
			}
		}
		if t.Failed() {
			t.Fatalf("seed %d", seed)
		}
	}
}

// newest looks whether a command that either book knows isn't new to the joined one.
func newest(t testing.TB, both []api.Seen, books [][]api.Seen) {
	t.Helper()
	for _, book := range books {
		for _, s := range book {
			if _, e := look(t, both, s.Client, s.Seq); e != api.OK && e != api.ErrStale {
				t.Errorf("P17.4: %s was put, but Look in %s: error %d", told([]api.Seen{s}), told(both), e)
			}
		}
	}
}

// Lists by chance, most of them no books.
func TestAnyLists(t *testing.T) {
	r := rand.New(rand.NewSource(1))
	list := func() []api.Seen {
		var l []api.Seen
		for range r.Intn(4) {
			l = append(l, seen(some(r, []int{1, 2, 3, 4, 63, 64}, wrongClients), some(r, []int64{1, 2, 3}, wrongSeqs), r.Intn(1000)))
		}
		if r.Intn(2) == 0 {
			slices.SortFunc(l, func(a, b api.Seen) int { return cmp.Compare(a.Client, b.Client) })
		}
		return l
	}
	for range 4000 {
		a, b := list(), list()
		wantCheck(t, a, paperCheck(a))
		join(t, a, b)
		s := chance(r, a, []int{1, 2, 3, 4, 63, 64})
		look(t, a, s.Client, s.Seq)
		put(t, a, s)
	}
}

// Many may ask of one book at one time: no call writes to it.
func TestAtOneTime(t *testing.T) {
	book := bookOf(5, 1, upTo(1, api.MaxClients)...)
	was := copied(book)
	got := make([][]answer, len(book))
	calls := func(i int) []answer {
		s := seen(i+1, int64(4+i%3), 3)
		return []answer{ofLook(seat.Look(book, s.Client, s.Seq)), ofBook(seat.Put(book, s)), ofBook(seat.Put(book[:i], s)), ofBook(seat.Join(book, book[i:]))}
	}
	var wait sync.WaitGroup
	for i := range book {
		wait.Go(func() { got[i] = calls(i) })
	}
	wait.Wait()
	if !sameBook(book, was) {
		t.Error("rule 5: the book was changed")
	}
	for i := range book {
		if !slices.EqualFunc(got[i], calls(i), answer.same) {
			t.Errorf("rule 6: client %d is answered otherwise at one time", i+1)
		}
	}
}
