package seat_test

import (
	"math"
	"slices"
	"testing"

	"matins/api"
	"matins/seat"
)

func TestChapterExamples(t *testing.T) {
	kept := func(client int, seq int64, name string) api.Seen {
		return api.Seen{Client: client, Seq: seq, Result: api.Result{Jobs: []api.Job{{Name: name}}}}
	}
	r, s := kept(3, 1, "r"), kept(3, 5, "s")
	noLook(t, nil, 3, 1, api.ErrNone)
	wantPut(t, nil, r, r)
	that := []api.Seen{r}
	wantLook(t, that, 3, 1, r.Result)
	noLook(t, that, 3, 2, api.ErrNone)
	wantPut(t, that, s, s)
	that = []api.Seen{s}
	noLook(t, that, 3, 4, api.ErrStale)
	noLook(t, that, 65, 1, api.ErrArg)
	noLook(t, that, 3, 0, api.ErrArg)

	one, four := kept(1, 2, "r"), kept(4, 1, "u")
	wantJoin(t, []api.Seen{one, s}, []api.Seen{kept(3, 4, "t"), four}, one, s, four)
}

// Each client, with numbers below, at and above its session's.
func TestLookEach(t *testing.T) {
	for _, clients := range [][]int{nil, {1}, {64}, {1, 64}, {1, 2, 3}, {2, 7, 20, 63}, upTo(1, api.MaxClients)} {
		for _, at := range []int64{1, 2, 5, math.MaxInt64 - 1, math.MaxInt64} {
			book := bookOf(at, 2, clients...)
			for client := -1; client <= api.MaxClients+1; client++ {
				i := slices.Index(clients, client)
				for _, seq := range []int64{math.MinInt64, -1, 0, 1, 2, 4, 5, 6, 1 << 32, math.MaxInt64 - 1, math.MaxInt64} {
					switch {
					case client < 1 || client > 64 || seq < 1:
						noLook(t, book, client, seq, api.ErrArg)
					case i < 0 || at < seq:
						noLook(t, book, client, seq, api.ErrNone)
					case at > seq:
						noLook(t, book, client, seq, api.ErrStale)
					default:
						wantLook(t, book, client, seq, book[i].Result)
					}
				}
			}
		}
	}
}

// A Result is told as it was put, of whatever kind it is.
func TestAnyResults(t *testing.T) {
	for _, r := range results() {
		s := api.Seen{Client: 5, Seq: 2, Result: r}
		for _, book := range [][]api.Seen{nil, bookOf(3, 1, 4, 6), bookOf(1, 1, 4, 5, 6), bookOf(1, 1, upTo(1, api.MaxClients)...)} {
			behind, e := put(t, book, s)
			if e != api.OK {
				t.Fatalf("P17.3: error %d", e)
			}
			wantCheck(t, behind, true)
			wantLook(t, behind, 5, 2, r)
			both, _ := join(t, behind, []api.Seen{seen(5, 1, 3)})
			wantLook(t, both, 5, 2, r)
			both, _ = join(t, []api.Seen{seen(5, 1, 3)}, behind)
			wantLook(t, both, 5, 2, r)
		}
		others := []api.Seen{seen(1, 9, 3), s, seen(9, 9, 3)}
		wantPut(t, others, seen(2, 1, 7), others[0], seen(2, 1, 7), s, others[2])
		wantPut(t, others, seen(5, 3, 7), others[0], seen(5, 3, 7), others[2])
	}
}

func TestLookWrong(t *testing.T) {
	book := bookOf(5, 1, 1, 3, 64)
	for _, client := range wrongClients {
		for _, seq := range []int64{1, 4, 5, 6, 0, -1} {
			noLook(t, book, client, seq, api.ErrArg)
			noLook(t, nil, client, seq, api.ErrArg)
		}
	}
	for _, seq := range wrongSeqs {
		for _, client := range []int{1, 2, 3, 4, 64, 0, 65} {
			noLook(t, book, client, seq, api.ErrArg)
			noLook(t, nil, client, seq, api.ErrArg)
		}
	}
}

// Ahead of all, between, behind all, and in the place of one.
func TestPutPlaces(t *testing.T) {
	two, seven, last := seen(2, 5, 1), seen(7, 5, 2), seen(20, 5, 3)
	book := []api.Seen{two, seven, last}
	for _, client := range []int{1, 3, 6, 8, 19, 21, 64} {
		s := seen(client, 1, 7)
		noLook(t, book, client, 1, api.ErrNone)
		switch {
		case client < 2:
			wantPut(t, book, s, s, two, seven, last)
		case client < 7:
			wantPut(t, book, s, two, s, seven, last)
		case client < 20:
			wantPut(t, book, s, two, seven, s, last)
		default:
			wantPut(t, book, s, two, seven, last, s)
		}
	}
	for i := range book {
		for _, seq := range []int64{1, 4, 5} {
			noPut(t, book, seen(book[i].Client, seq, 7), api.ErrStale)
		}
		noPut(t, book, book[i], api.ErrStale)
		for _, seq := range []int64{6, 7, math.MaxInt64} {
			s := seen(book[i].Client, seq, 7)
			wantPut(t, book, s, with(book, i, s)...)
		}
	}
	for client := 1; client <= api.MaxClients; client++ {
		wantPut(t, nil, seen(client, 1, 3), seen(client, 1, 3))
		wantPut(t, []api.Seen{}, seen(client, math.MaxInt64, 3), seen(client, math.MaxInt64, 3))
	}
}

// Each client into a book of all the others, and of all.
func TestPutEach(t *testing.T) {
	full := bookOf(5, 1, upTo(1, api.MaxClients)...)
	for i, s := range full {
		others := slices.Delete(slices.Clone(full), i, i+1)
		wantPut(t, others, s, full...)
		noPut(t, full, s, api.ErrStale)
		noPut(t, full, seen(s.Client, 4, 3), api.ErrStale)
		newer := seen(s.Client, 6, 3)
		wantPut(t, full, newer, with(full, i, newer)...)
	}
}

func TestPutSeqs(t *testing.T) {
	for _, at := range rightSeqs {
		book := []api.Seen{seen(4, math.MaxInt64, 1), seen(5, at, 2), seen(6, 1, 3)}
		for _, seq := range rightSeqs {
			s := seen(5, seq, 7)
			if seq <= at {
				noPut(t, book, s, api.ErrStale)
			} else {
				wantPut(t, book, s, with(book, 1, s)...)
			}
		}
	}
}

func TestPutWrong(t *testing.T) {
	books := [][]api.Seen{nil, bookOf(5, 1, 1, 3, 64), bookOf(5, 1, upTo(1, api.MaxClients)...)}
	for _, book := range books {
		for _, client := range wrongClients {
			for _, seq := range []int64{1, 5, 6, math.MaxInt64, 0, -1} {
				noPut(t, book, seen(client, seq, 3), api.ErrArg)
			}
		}
		for _, seq := range wrongSeqs {
			for _, client := range []int{1, 2, 3, 64, 0, 65} {
				noPut(t, book, seen(client, seq, 3), api.ErrArg)
			}
		}
		noPut(t, book, api.Seen{}, api.ErrArg)
	}
}

func TestJoinNone(t *testing.T) {
	for _, none := range [][]api.Seen{nil, {}} {
		wantJoin(t, none, nil)
		wantJoin(t, none, []api.Seen{})
		for _, book := range [][]api.Seen{bookOf(1, 3, 1), bookOf(5, 1, 1, 3, 64), bookOf(5, 2, upTo(1, api.MaxClients)...)} {
			wantJoin(t, book, none, book...)
			wantJoin(t, none, book, book...)
		}
	}
}

func TestJoinApart(t *testing.T) {
	a1, a3, a5, b2, b4, b6 := seen(1, 9, 1), seen(3, 1, 2), seen(5, 5, 3), seen(2, 3, 4), seen(4, 8, 5), seen(6, 1, 6)
	all := []api.Seen{a1, b2, a3, b4, a5, b6}
	wantJoin(t, []api.Seen{a1, a3, a5}, []api.Seen{b2, b4, b6}, all...)
	wantJoin(t, []api.Seen{b2, b4, b6}, []api.Seen{a1, a3, a5}, all...)
	for i := range all {
		wantJoin(t, all[:i], all[i:], all...)
		wantJoin(t, all[i:], all[:i], all...)
		rest := slices.Delete(slices.Clone(all), i, i+1)
		wantJoin(t, rest, all[i:i+1], all...)
		wantJoin(t, all[i:i+1], rest, all...)
	}
	odd, even := bookOf(2, 1), bookOf(2, 1)
	full := bookOf(2, 1, upTo(1, api.MaxClients)...)
	for i, s := range full {
		if i%2 == 0 {
			odd = append(odd, s)
		} else {
			even = append(even, s)
		}
	}
	wantJoin(t, odd, even, full...)
	wantJoin(t, even, odd, full...)
	wantJoin(t, full[:32], full[32:], full...)
	wantJoin(t, full[32:], full[:32], full...)
}

// Of a client that both have: the greater number, and a's of the same one.
func TestJoinCommon(t *testing.T) {
	for _, x := range rightSeqs {
		for _, y := range rightSeqs {
			a, b := seen(3, x, 1), seen(3, y, 2)
			first, second := a, b
			if y > x {
				first = b
			}
			if x > y {
				second = a
			}
			wantJoin(t, []api.Seen{a}, []api.Seen{b}, first)
			wantJoin(t, []api.Seen{b}, []api.Seen{a}, second)
			ahead, behind := seen(2, 5, 3), seen(4, 5, 6)
			wantJoin(t, []api.Seen{ahead, a}, []api.Seen{b, behind}, ahead, first, behind)
			wantJoin(t, []api.Seen{a, behind}, []api.Seen{ahead, b}, ahead, first, behind)
			wantJoin(t, []api.Seen{b, behind}, []api.Seen{ahead, a}, ahead, second, behind)
		}
	}
}

// All books of three clients whose numbers are 1, 2 or 3, each with each.
func TestJoinEach(t *testing.T) {
	books := func(tag int) [][]api.Seen {
		var all [][]api.Seen
		for n := range 64 {
			var book []api.Seen
			for i, client := range []int{1, 2, 64} {
				if seq := n >> (2 * i) & 3; seq > 0 {
					book = append(book, seen(client, int64(seq), tag+i))
				}
			}
			all = append(all, book)
		}
		return all
	}
	for _, a := range books(1) {
		for _, b := range books(6) {
			both, e := join(t, a, b)
			if e != api.OK {
				t.Fatalf("P17.4: error %d", e)
			}
			wantCheck(t, both, true)
			wantJoin(t, both, b, both...)
			wantJoin(t, a, both, both...)
		}
	}
}

func TestJoinFull(t *testing.T) {
	clients := upTo(1, api.MaxClients)
	old, mid, other, late := bookOf(4, 1, clients...), bookOf(5, 2, clients...), bookOf(5, 3, clients...), bookOf(6, 4, clients...)
	for _, book := range [][]api.Seen{old, late, other} {
		wantJoin(t, book, book, book...)
	}
	wantJoin(t, mid, old, mid...)
	wantJoin(t, old, mid, mid...)
	wantJoin(t, mid, late, late...)
	wantJoin(t, late, mid, late...)
	wantJoin(t, mid, other, mid...)
	wantJoin(t, other, mid, other...)
	for i := range clients {
		wantJoin(t, mid, late[i:i+1], with(mid, i, late[i])...)
		wantJoin(t, late[i:i+1], mid, with(mid, i, late[i])...)
		wantJoin(t, mid, old[i:i+1], mid...)
		wantJoin(t, old[i:i+1], mid, mid...)
		wantJoin(t, mid, other[i:i+1], mid...)
		wantJoin(t, other[i:i+1], mid, with(mid, i, other[i])...)
	}
}

// One list handed in twice, and sessions whose Results share one list of jobs: what is answered shares none.
func TestSharedArguments(t *testing.T) {
	list := []api.Job{{Name: "a"}, {Name: "b"}, {Name: "c"}}
	var knit []api.Seen
	for i, jobs := range [][]api.Job{list, list, list[:1], list[1:], list[:0]} {
		knit = append(knit, api.Seen{Client: 2 * (i + 1), Seq: 5, Result: api.Result{Jobs: jobs}})
	}
	was := copied(knit)
	newer := func(client int) api.Seen { return api.Seen{Client: client, Seq: 6, Result: api.Result{Jobs: list}} }
	for name, call := range map[string]func() answer{
		"Join(a, a)":          func() answer { return ofBook(seat.Join(knit, knit)) },
		"Join(a[:3], a[2:])":  func() answer { return ofBook(seat.Join(knit[:3], knit[2:])) },
		"Join(a[2:], a[:3])":  func() answer { return ofBook(seat.Join(knit[2:], knit[:3])) },
		"Join(none, a)":       func() answer { return ofBook(seat.Join(nil, knit)) },
		"Put(a, one more)":    func() answer { return ofBook(seat.Put(knit, newer(5))) },
		"Put(a, its own)":     func() answer { return ofBook(seat.Put(knit, newer(4))) },
		"Put(a[:2], in room)": func() answer { return ofBook(seat.Put(knit[:2], newer(6))) },
		"Put(none, one)":      func() answer { return ofBook(seat.Put(nil, newer(6))) },
		"Look(a, 4)":          func() answer { return ofLook(seat.Look(knit, 4, 5)) },
	} {
		got := call()
		if got.err != api.OK || len(got.book) == 0 {
			t.Errorf("%s: %s", name, got.told())
		}
		if !apart(got.book) {
			t.Errorf("rule 5: %s: two lists of the answer share memory", name)
		}
		spoilBook(got.book)
		if !sameBook(knit, was) {
			t.Fatalf("rule 5: %s: what is handed in is changed by the call or by way of its answer: %s", name, told(knit))
		}
	}
}
