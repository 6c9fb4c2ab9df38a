package mover_test

import (
	"fmt"
	"maps"
	"slices"
	"testing"

	"matins/api"
	"matins/atlas"
	"matins/mover"
	"matins/shard"
)

// world is a map with the shards of its groups, and a mover: what chapter 20 speaks of, played by a test.
type world struct {
	a      api.Atlas
	groups [][]api.Shard // by their numbers; the first one is none
	have   api.Shard
	sent   []letter     // each order that ever went out, once
	reply  *reply       // an answer that is on its way to the mover
	may    []int        // what Heard has said in this plan: the phases that are done, and -1
	books  [][]api.Seen // the sessions that the spans' shards should have
}

// letter is an order on its way to a group.
type letter struct {
	group int
	order api.Order
}

type reply struct {
	r api.Result
	s api.Shard
}

func (l letter) same(k letter) bool { return l.group == k.group && sameOrder(l.order, k.order) }

// copied is a world of its own; what stands in it is never written to, but laid anew.
func (w world) copied() world {
	w.groups, w.sent, w.may, w.books = slices.Clone(w.groups), slices.Clone(w.sent), slices.Clone(w.may), slices.Clone(w.books)
	return w
}

func (w world) key() string {
	text := toldMap(w.a) + toldShard(w.have) + fmt.Sprint(w.may)
	for _, list := range w.groups {
		text += "|"
		for _, s := range list {
			text += toldShard(s)
		}
	}
	for _, l := range w.sent {
		text += fmt.Sprint(l.group) + toldOrder(l.order)
	}
	if w.reply != nil {
		text += fmt.Sprint(w.reply.r.Err) + toldShard(w.reply.s)
	}
	return text
}

func (w world) planned() bool { return w.a.Plan.Kind != 0 }

// write lays down that the order of now went out, and tells it.
func (w *world) write(t testing.TB) letter {
	t.Helper()
	group, o, ok := mover.Next(w.a, w.have)
	if !ok || group < 1 || group >= len(w.groups) {
		t.Fatalf("P20.1: Next of %s, has %s: %d, %s, %t", toldMap(w.a), toldShard(w.have), group, toldOrder(o), ok)
	}
	l := letter{group, o}
	if !slices.ContainsFunc(w.sent, l.same) {
		w.sent = append(w.sent, l)
	}
	return l
}

// arrive does an order to its group's shards.
func (w *world) arrive(l letter) reply {
	list, r, s := shard.Do(w.groups[l.group], l.order)
	w.groups[l.group] = list
	return reply{r, s}
}

// hear tells the mover an answer to the order of now.
func (w *world) hear(got reply) {
	have, done := mover.Heard(w.a, w.have, got.r, got.s)
	w.have, w.reply = have, nil
	if done != 0 && !slices.Contains(w.may, done) {
		w.may = append(w.may, done)
		slices.Sort(w.may)
	}
}

// forget loses what the mover has, and what is on its way to it.
func (w *world) forget() { w.have, w.reply = api.Shard{}, nil }

// settle changes the map by what Heard has said (-1, or a phase).
func (w *world) settle(t testing.TB, done int) {
	t.Helper()
	a, err := w.a, api.OK
	if done == -1 {
		a, err = atlas.Abort(w.a)
	} else {
		a, err = atlas.Advance(w.a, done)
	}
	if err != api.OK {
		t.Fatalf("P20.2: what Heard has said, %d, is refused by %s: %d", done, toldMap(w.a), err)
	}
	at := slices.IndexFunc(w.a.Spans, func(s api.Span) bool { return s.Shard == w.a.Plan.Shard })
	switch {
	case done != 1 || w.books == nil:
	case w.a.Plan.Kind == api.PlanSplit:
		w.books = slices.Insert(slices.Clone(w.books), at, w.books[at])
	case w.a.Plan.Kind == api.PlanMerge:
		joined := newest(w.books[at], w.books[at+1])
		w.books = slices.Replace(slices.Clone(w.books), at, at+2, joined)
	}
	w.a, w.may, w.reply = a, nil, nil
}

// newest are the sessions of two books: of each client the one that is further on.
func newest(a, b []api.Seen) []api.Seen {
	of := map[int]api.Seen{}
	for _, s := range slices.Concat(a, b) {
		if old, ok := of[s.Client]; !ok || s.Seq > old.Seq {
			of[s.Client] = s
		}
	}
	all := slices.Collect(maps.Values(of))
	slices.SortFunc(all, func(a, b api.Seen) int { return a.Client - b.Client })
	return all
}

// step is one step on a way on which nothing is lost: an order, its answer, and the map behind it.
func (w *world) step(t testing.TB) {
	t.Helper()
	w.hear(w.arrive(w.write(t)))
	if len(w.may) > 0 {
		w.settle(t, w.may[len(w.may)-1])
	}
}

// finish drives the plan to its end, on a way on which nothing is lost.
func (w *world) finish(t testing.TB) {
	t.Helper()
	for n := 0; w.planned(); n++ {
		if n == 12 {
			t.Fatalf("P20.3: the plan doesn't end: %s, has %s, shards %s", toldMap(w.a), toldShard(w.have), w.told())
		}
		w.step(t)
	}
}

func (w world) told() string {
	text := ""
	for i, list := range w.groups[1:] {
		text += fmt.Sprintf(" group %d:", i+1)
		for _, s := range list {
			text += " " + toldShard(s)
		}
	}
	return text
}

func overlap(a, b api.Shard) bool {
	return (a.To == "" || b.From < a.To) && (b.To == "" || a.From < b.To)
}

// safe holds what is so at each step: the map and the shards are right, and no name is served by two shards.
func (w world) safe(t testing.TB) {
	t.Helper()
	if !atlas.Check(w.a) {
		t.Fatalf("P20.3: no right map: %s", toldMap(w.a))
	}
	var serving []api.Shard
	for i, list := range w.groups {
		if !shard.Check(list) {
			t.Fatalf("P20.3: no right shards in group %d: %s", i, w.told())
		}
		for _, s := range list {
			if s.State != api.Serving {
				continue
			}
			for _, o := range serving {
				if overlap(s, o) {
					t.Fatalf("P20.3: names served by two shards: %s, %s", toldMap(w.a), w.told())
				}
			}
			serving = append(serving, s)
		}
	}
}

// fits holds P20.3 at the end of a plan: each span's Shard serves, at its Epoch and for its range, in its Group, and nothing else is there that isn't gone. It tells the shards in the order of the spans.
func (w world) fits(t testing.TB) []api.Shard {
	t.Helper()
	w.safe(t)
	var all []api.Shard
	for _, span := range w.a.Spans {
		at := slices.IndexFunc(w.groups[span.Group], func(s api.Shard) bool { return s.Id == span.Shard })
		if at < 0 {
			t.Fatalf("P20.3: there is no shard %d in group %d: %s", span.Shard, span.Group, w.told())
		}
		s := w.groups[span.Group][at]
		if s.State != api.Serving || s.Epoch != span.Epoch || s.From != span.From || s.To != span.To {
			t.Fatalf("P20.3: %s doesn't fit %+v", toldShard(s), span)
		}
		all = append(all, s)
	}
	live := 0
	for _, list := range w.groups {
		for _, s := range list {
			if s.State != api.Gone {
				live++
			}
		}
	}
	if live != len(all) {
		t.Fatalf("P20.3: %d shards aren't gone, of %d spans: %s, %s", live, len(all), toldMap(w.a), w.told())
	}
	return all
}

// hasOnly looks whether these jobs, and no others, are in some shards, each where its name belongs.
func hasOnly(t testing.TB, all []api.Shard, want []api.Job) {
	t.Helper()
	var got []api.Job
	for _, s := range all {
		got = append(got, s.Jobs...)
		for _, j := range s.Jobs {
			if !shard.In(s, j.Name) {
				t.Errorf("P20.3: the job %q in %s", j.Name, toldShard(s))
			}
		}
	}
	if !slices.Equal(got, want) {
		t.Errorf("P20.3: the jobs %v, want %v", got, want)
	}
}

func seen(client int, seq int64, jobs ...api.Job) api.Seen {
	return api.Seen{Client: client, Seq: seq, Result: api.Result{Time: seq * 3, Jobs: jobs}}
}

// served is a shard that serves a range with a job of each name.
func served(id int, epoch int64, from, to string, book []api.Seen, names ...string) api.Shard {
	s := api.Shard{Id: id, Epoch: epoch, State: api.Serving, From: from, To: to, Seen: book}
	for _, name := range names {
		s.Jobs = append(s.Jobs, jobOf(name))
	}
	return s
}

// twoGroups is a world of two groups: the names below "h" are the shard 4's in group 1, those from "h" on the shards 2's and 7's in group 2.
func twoGroups() world {
	a := api.Atlas{Groups: 2, Last: 9, Spans: []api.Span{spanOf("", "h", 4, 10, 1), spanOf("h", "p", 2, 20, 2), spanOf("p", "", 7, 5, 2)}}
	lower := served(4, 10, "", "h", []api.Seen{seen(1, 3, jobOf("a"))}, "a")
	mid := served(2, 20, "h", "p", []api.Seen{seen(1, 5), seen(3, 8, jobOf("k"), jobOf("was"))}, "k", "m")
	up := served(7, 5, "p", "", []api.Seen{seen(1, 4), seen(2, 2, jobOf("q")), seen(3, 9)}, "p")
	return world{a: a, groups: [][]api.Shard{nil, {lower}, {mid, up}}}
}

// allJobs are the jobs of two groups.
func allJobs() []api.Job {
	var list []api.Job
	for _, name := range []string{"a", "k", "m", "p"} {
		list = append(list, jobOf(name))
	}
	return list
}

// begun is a world in which a plan begins.
func (w world) begun(t testing.TB, p api.Plan) world {
	t.Helper()
	a, err := atlas.Begin(w.a, p)
	if err != api.OK {
		t.Fatalf("the plan %+v doesn't begin: %d", p, err)
	}
	w = w.copied()
	w.a, w.may = a, nil
	w.forget()
	return w
}

// books are the sessions that a world's shards should have, in the order of the spans.
func wantBooks(t testing.TB, all []api.Shard, want ...[]api.Seen) {
	t.Helper()
	for i, s := range all {
		if len(all) != len(want) || !slices.EqualFunc(s.Seen, want[i], sameSeen) {
			t.Errorf("P20.3: the sessions of %s: %v, want %v", toldShard(s), s.Seen, want)
		}
	}
}
