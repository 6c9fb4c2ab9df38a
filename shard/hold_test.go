package shard_test

import (
	"fmt"
	"slices"
	"strings"
	"testing"

	"matins/api"
	"matins/shard"
)

const spare = 2 // places of spare room behind each list that is handed in

var (
	lentJob   = api.Job{Name: "room", Client: -7}
	spoiltJob = api.Job{Name: "spoilt", Seq: -8}
)

// withRoom is a list in new memory with spare room that is filled; nil stays nil.
func withRoom[T any](list []T, room T) []T {
	if list == nil {
		return nil
	}
	all := make([]T, len(list), len(list)+spare)
	copy(all, list)
	for i := range spare {
		all[:cap(all)][len(list)+i] = room
	}
	return all
}

func lendBook(book []api.Seen) []api.Seen {
	lent := withRoom(book, api.Seen{Client: -7, Result: api.Result{Jobs: withRoom([]api.Job{lentJob}, lentJob)}})
	for i := range lent {
		lent[i].Result.Jobs = withRoom(lent[i].Result.Jobs, lentJob)
	}
	return lent
}

// lendShard is a shard with all its lists in new memory, and spare room behind each.
func lendShard(s api.Shard) api.Shard {
	s.Jobs, s.Seen = withRoom(s.Jobs, lentJob), lendBook(s.Seen)
	return s
}

func lend(list []api.Shard) []api.Shard {
	lent := withRoom(list, lendShard(api.Shard{Id: -7, Jobs: []api.Job{lentJob}, Seen: []api.Seen{{Client: -7}}}))
	for i := range lent {
		lent[i] = lendShard(lent[i])
	}
	return lent
}

func lendOrder(o api.Order) api.Order {
	o.State = lendShard(o.State)
	return o
}

func sameResult(a, b api.Result) bool {
	return a.Err == b.Err && a.Time == b.Time && slices.Equal(a.Jobs, b.Jobs)
}

func sameSeen(a, b api.Seen) bool {
	return a.Client == b.Client && a.Seq == b.Seq && sameResult(a.Result, b.Result)
}

func sameBook(a, b []api.Seen) bool { return slices.EqualFunc(a, b, sameSeen) }

func sameShard(a, b api.Shard) bool {
	return a.Id == b.Id && a.Epoch == b.Epoch && a.State == b.State && a.From == b.From && a.To == b.To && slices.Equal(a.Jobs, b.Jobs) && sameBook(a.Seen, b.Seen)
}

func sameShards(a, b []api.Shard) bool { return slices.EqualFunc(a, b, sameShard) }

func whole[T any](list []T) []T { return list[:cap(list)] }

// stretched is a shard with the spare room of its lists too.
func stretched(s api.Shard) api.Shard {
	s.Jobs, s.Seen = whole(s.Jobs), slices.Clone(whole(s.Seen))
	for i := range s.Seen {
		s.Seen[i].Result.Jobs = whole(s.Seen[i].Result.Jobs)
	}
	return s
}

// stays tells whether shards that were lent are as they were lent, spare room too.
func stays(lent, list []api.Shard) bool {
	same := func(a, b api.Shard) bool { return sameShard(stretched(a), stretched(b)) }
	return len(lent) == len(list) && slices.EqualFunc(whole(lent), whole(lend(list)), same)
}

func stateStays(lent, s api.Shard) bool { return sameShard(stretched(lent), stretched(lendShard(s))) }

func spoil[T any](list []T, with T) {
	list = whole(list)
	for i := range list {
		list[i] = with
	}
}

// spoilShard writes over all the lists of a shard, and their spare room: whoever shares memory with it shows that.
func spoilShard(s api.Shard) {
	for _, seen := range whole(s.Seen) {
		spoil(seen.Result.Jobs, spoiltJob)
	}
	spoil(s.Seen, api.Seen{Client: -8})
	spoil(s.Jobs, spoiltJob)
}

func spoilShards(list []api.Shard) {
	for _, s := range whole(list) {
		spoilShard(s)
	}
	spoil(list, api.Shard{Id: -8})
}

func copiedResult(r api.Result) api.Result {
	r.Jobs = slices.Clone(r.Jobs)
	return r
}

func copied(s api.Shard) api.Shard {
	s.Jobs, s.Seen = slices.Clone(s.Jobs), slices.Clone(s.Seen)
	for i := range s.Seen {
		s.Seen[i].Result = copiedResult(s.Seen[i].Result)
	}
	return s
}

func copies(list []api.Shard) []api.Shard {
	list = slices.Clone(list)
	for i := range list {
		list[i] = copied(list[i])
	}
	return list
}

// separate writes a mark of its own over each list, spare room too; if a mark is gone then, two lists share memory.
func separate[T any](lists [][]T, mark func(int) T, same func(a, b T) bool) bool {
	for i, list := range lists {
		spoil(list, mark(i))
	}
	for i, list := range lists {
		for _, x := range whole(list) {
			if !same(x, mark(i)) {
				return false
			}
		}
	}
	return true
}

// answer is what Do answers.
type answer struct {
	list   []api.Shard
	result api.Result
	shown  api.Shard
}

func answered(list []api.Shard, r api.Result, s api.Shard) answer { return answer{list, r, s} }

func (a answer) same(b answer) bool {
	return sameShards(a.list, b.list) && sameResult(a.result, b.result) && sameShard(a.shown, b.shown)
}

func (a answer) copied() answer {
	return answer{copies(a.list), copiedResult(a.result), copied(a.shown)}
}

// apart tells whether no two lists of the answer share memory. It spoils the answer.
func (a answer) apart() bool {
	jobLists := [][]api.Job{a.result.Jobs}
	var books [][]api.Seen
	for _, s := range append(slices.Clone(a.list), a.shown) {
		jobLists = append(jobLists, s.Jobs)
		books = append(books, s.Seen)
		for _, seen := range s.Seen {
			jobLists = append(jobLists, seen.Result.Jobs)
		}
	}
	ofJobs := separate(jobLists, func(i int) api.Job { return api.Job{Mark: int64(-i)} }, func(a, b api.Job) bool { return a == b })
	return separate(books, func(i int) api.Seen { return api.Seen{Client: -i} }, sameSeen) && ofJobs
}

func (a answer) told() string {
	return fmt.Sprintf("%s, the shard %s, %s", toldResult(a.result), toldShard(a.shown), told(a.list))
}

func toldResult(r api.Result) string {
	return fmt.Sprintf("[error %d, time %d, %d jobs %.90s]", r.Err, r.Time, len(r.Jobs), fmt.Sprint(r.Jobs))
}

func toldShard(s api.Shard) string {
	var names, seats []string
	for _, j := range s.Jobs[:min(len(s.Jobs), 9)] {
		names = append(names, fmt.Sprintf("%q/%d", j.Name, j.Mark))
	}
	for _, seen := range s.Seen[:min(len(s.Seen), 9)] {
		seats = append(seats, fmt.Sprintf("%d:%d", seen.Client, seen.Seq))
	}
	return fmt.Sprintf("{%d %d %d %.20q %.20q; %d jobs %s; %d sessions %s}", s.Id, s.Epoch, s.State, s.From, s.To, len(s.Jobs), strings.Join(names, " "), len(s.Seen), strings.Join(seats, " "))
}

func told(list []api.Shard) string {
	all := fmt.Sprint(len(list), " shards")
	for i, s := range list {
		if i == 7 {
			return all + " .."
		}
		all += " " + toldShard(s)
	}
	return all
}

func toldOrder(o api.Order) string {
	return fmt.Sprintf("{%d %d %d Other %d Past %d Key %.20q Cmd %.120s State %s}", o.Kind, o.Shard, o.Epoch, o.Other, o.Past, o.Key, fmt.Sprintf("%+v", o.Cmd), toldShard(o.State))
}

// do calls Do, holds it against the paper, and looks whether the call leaves what it is lent, answers the same once more, and shares no memory; and what P18.3 says of an order that comes again.
func do(t testing.TB, list []api.Shard, o api.Order) answer {
	t.Helper()
	fail := func(what string, a answer) {
		t.Helper()
		t.Errorf("%s: Do(%s,\n%s):\n%s", what, told(list), toldOrder(o), a.told())
	}
	lent, order := lend(list), lendOrder(o)
	first := answered(shard.Do(lent, order))
	got := first.copied()
	if want := answered(paperDo(list, o)); !got.same(want) {
		fail("P18.1", got)
		t.Errorf("want %s", want.told())
	}
	second := answered(shard.Do(lent, order))
	if !stays(lent, list) || !stateStays(order.State, o.State) {
		fail("rule 5: what is lent is changed", answer{list: lent, shown: order.State})
	}
	spoilShards(lent)
	spoilShard(order.State)
	if !first.same(got) {
		fail("rule 5: the answer shares memory with an argument", first)
	}
	if !first.apart() {
		fail("rule 5: two lists of the answer share memory", got)
	}
	spoilShards(first.list)
	if !second.same(got) {
		fail("rules 5, 6: once more", second)
	}
	again(t, list, o, got)
	return got
}

// again holds P18.3: right behind, the order is OK or refused, and changes nothing; and with it that the shards stay a group's.
func again(t testing.TB, list []api.Shard, o api.Order, got answer) {
	t.Helper()
	if !paperCheck(list) {
		return
	}
	if !shard.Check(got.list) {
		t.Errorf("P18.1: Do(%s,\n%s): Check refuses what is answered: %s", told(list), toldOrder(o), got.told())
	}
	behind, _, _ := shard.Do(got.list, o)
	if !sameShards(behind, got.list) {
		t.Errorf("P18.3: Do(%s,\n%s): the order again: %s,\nahead %s", told(list), toldOrder(o), told(behind), told(got.list))
	}
}

// refuse is do of an order that is refused: the shards stay, and nothing else is told.
func refuse(t testing.TB, list []api.Shard, o api.Order, want api.Errno) {
	t.Helper()
	if got := do(t, list, o); !got.same(answer{list: list, result: api.Result{Err: want}}) {
		t.Errorf("P18.1: Do(%s,\n%s):\n     %s,\nwant error %d", told(list), toldOrder(o), got.told(), want)
	}
}

// idle is do of an order that is OK and changes nothing.
func idle(t testing.TB, list []api.Shard, o api.Order) {
	t.Helper()
	refuse(t, list, o, api.OK)
}

// turns is do of an order that is OK and makes these shards.
func turns(t testing.TB, list []api.Shard, o api.Order, want []api.Shard) {
	t.Helper()
	if got := do(t, list, o); !got.same(answer{list: want}) {
		t.Errorf("P18.1: Do(%s,\n%s):\n     %s,\nwant %s", told(list), toldOrder(o), got.told(), told(want))
	}
}

// must is do of an order that is OK.
func must(t testing.TB, list []api.Shard, o api.Order) answer {
	t.Helper()
	got := do(t, list, o)
	if got.result.Err != api.OK {
		t.Fatalf("P18.1: Do(%s,\n%s): %s", told(list), toldOrder(o), got.told())
	}
	return got
}

func sameOrder(a, b api.Order) bool {
	same := sameShard(a.State, b.State)
	a.State, b.State = api.Shard{}, api.Shard{}
	return same && a.Kind == b.Kind && a.Shard == b.Shard && a.Epoch == b.Epoch && a.Other == b.Other && a.Past == b.Past && a.Key == b.Key && a.Cmd == b.Cmd
}

// dueOf calls Due, as do calls Do.
func dueOf(t testing.TB, list []api.Shard, upto int64) []api.Order {
	t.Helper()
	lent := lend(list)
	first := shard.Due(lent, upto)
	got := slices.Clone(first)
	if want := paperDue(list, upto); !slices.EqualFunc(got, want, sameOrder) {
		t.Errorf("P18.2: Due(%s, %d): %+v, want %+v", told(list), upto, got, want)
	}
	second := shard.Due(lent, upto)
	if !stays(lent, list) {
		t.Errorf("rule 5: Due(%s, %d) changes what is lent", told(list), upto)
	}
	spoilShards(lent)
	if !slices.EqualFunc(first, got, sameOrder) {
		t.Errorf("rule 5: Due(%s, %d): the answer shares memory with an argument", told(list), upto)
	}
	spoil(first, api.Order{Kind: -8})
	if !slices.EqualFunc(second, got, sameOrder) {
		t.Errorf("rules 5, 6: Due(%s, %d): once more: %+v", told(list), upto, second)
	}
	return got
}

func wantCheck(t testing.TB, list []api.Shard, want bool) {
	t.Helper()
	lent := lend(list)
	if got := shard.Check(lent); got != want || paperCheck(list) != want {
		t.Errorf("P18.1: Check(%s): %t, by the paper %t, want %t", told(list), got, paperCheck(list), want)
	}
	if !stays(lent, list) {
		t.Errorf("rule 5: Check(%s) changes what is lent", told(list))
	}
}

func wantIn(t testing.TB, s api.Shard, name string, want bool) {
	t.Helper()
	lent := lendShard(s)
	if got := shard.In(lent, name); got != want || paperIn(s, name) != want {
		t.Errorf("P18.1: In(%s, %.30q): %t, by the paper %t, want %t", toldShard(s), name, got, paperIn(s, name), want)
	}
	if !stateStays(lent, s) {
		t.Errorf("rule 5: In(%s, %.30q) changes what is lent", toldShard(s), name)
	}
}

// jobOf is a right job, by its name; no two of unlike names are alike.
func jobOf(name string) api.Job {
	return api.Job{Name: name, Expr: "0 0 * * *", Zone: "utc", Token: "tok-" + name, Client: 1 + len(name), Seq: 7, Mark: 100 + int64(name[0])}
}

func jobsOf(names ...string) []api.Job {
	var list []api.Job
	for _, name := range names {
		list = append(list, jobOf(name))
	}
	return list
}

// numbered are so many names behind a prefix, rising.
func numbered(prefix string, n int) []string {
	var names []string
	for i := range n {
		names = append(names, fmt.Sprintf("%s%03d", prefix, i))
	}
	return names
}

// seenOf is a session whose Result is known by a number, with none, one or two jobs.
func seenOf(client int, seq int64, tag int) api.Seen {
	r := api.Result{Err: api.Errno(tag % 3), Time: int64(tag)}
	for i := range tag % 3 {
		r.Jobs = append(r.Jobs, jobOf(fmt.Sprint("t", tag, ".", i)))
	}
	return api.Seen{Client: client, Seq: seq, Result: r}
}

// shardOf is a right shard with jobs of some names and three sessions; of one that is gone without.
func shardOf(id int, epoch int64, state int, from, to string, names ...string) api.Shard {
	s := api.Shard{Id: id, Epoch: epoch, State: state, From: from, To: to}
	if state != api.Gone {
		s.Jobs = jobsOf(names...)
		s.Seen = []api.Seen{seenOf(2, int64(10+id%1000), id), seenOf(5, int64(4), 4), seenOf(9, epoch, 2)}
	}
	return s
}

// fill puts shards behind a list: with those that are there so many live ones, then gone ones, so many in all.
func fill(list []api.Shard, live, all int) []api.Shard {
	list = slices.Clone(list)
	for _, s := range list {
		if s.State != api.Gone {
			live--
		}
	}
	id := 1000
	for ; live > 0; live-- {
		s := shardOf(id, 3, 1+id%3, "x", "y", "x"+fmt.Sprint(id))
		list = append(list, s)
		id++
	}
	for len(list) < all {
		list = append(list, api.Shard{Id: id, Epoch: 2, State: api.Gone, From: "x", To: "z"})
		id++
	}
	return list
}

// with is a list with another shard in the place of the one with its Id.
func with(list []api.Shard, s api.Shard) []api.Shard {
	list = slices.Clone(list)
	for i := range list {
		if list[i].Id == s.Id {
			list[i] = s
			return list
		}
	}
	list = append(list, s)
	slices.SortFunc(list, func(a, b api.Shard) int { return a.Id - b.Id })
	return list
}

// of is the shard of an Id in a list; an empty one: there is none.
func of(list []api.Shard, id int) api.Shard {
	for _, s := range list {
		if s.Id == id {
			return s
		}
	}
	return api.Shard{}
}
