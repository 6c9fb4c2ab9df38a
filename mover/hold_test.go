package mover_test

import (
	"fmt"
	"slices"
	"strings"
	"testing"

	"matins/api"
	"matins/mover"
)

const spare = 2 // places of spare room behind each list that is handed in

var (
	roomJob   = api.Job{Name: "room", Client: -7}
	roomSpan  = api.Span{From: "room", To: "spare", Shard: -7, Epoch: -7, Group: -7}
	spoiltJob = api.Job{Name: "spoilt", Seq: -8}
)

// withRoom is a list in new memory with spare room that is filled; nil stays nil.
func withRoom[T any](list []T, room T) []T {
	if list == nil {
		return nil
	}
	all := make([]T, len(list), len(list)+spare)
	copy(all, list)
	for i := range spare {
		all[:cap(all)][len(list)+i] = room
	}
	return all
}

func lendResult(r api.Result) api.Result {
	r.Jobs = withRoom(r.Jobs, roomJob)
	return r
}

// lendShard is a shard with all its lists in new memory, and spare room behind each.
func lendShard(s api.Shard) api.Shard {
	s.Jobs = withRoom(s.Jobs, roomJob)
	s.Seen = withRoom(s.Seen, api.Seen{Client: -7, Result: api.Result{Jobs: []api.Job{roomJob}}})
	for i := range s.Seen {
		s.Seen[i].Result = lendResult(s.Seen[i].Result)
	}
	return s
}

func lendMap(a api.Atlas) api.Atlas {
	a.Spans = withRoom(a.Spans, roomSpan)
	return a
}

func copiedShard(s api.Shard) api.Shard {
	s.Jobs, s.Seen = slices.Clone(s.Jobs), slices.Clone(s.Seen)
	for i := range s.Seen {
		s.Seen[i].Result.Jobs = slices.Clone(s.Seen[i].Result.Jobs)
	}
	return s
}

func sameResult(a, b api.Result) bool {
	return a.Err == b.Err && a.Time == b.Time && slices.Equal(a.Jobs, b.Jobs)
}

func sameSeen(a, b api.Seen) bool {
	return a.Client == b.Client && a.Seq == b.Seq && sameResult(a.Result, b.Result)
}

func sameShard(a, b api.Shard) bool {
	return a.Id == b.Id && a.Epoch == b.Epoch && a.State == b.State && a.From == b.From && a.To == b.To && slices.Equal(a.Jobs, b.Jobs) && slices.EqualFunc(a.Seen, b.Seen, sameSeen)
}

func sameMap(a, b api.Atlas) bool {
	return a.Groups == b.Groups && a.Last == b.Last && slices.Equal(a.Spans, b.Spans) && a.Plan == b.Plan
}

func sameOrder(a, b api.Order) bool {
	return a.Kind == b.Kind && a.Shard == b.Shard && a.Epoch == b.Epoch && a.Other == b.Other && a.Past == b.Past && a.Key == b.Key && a.Cmd == b.Cmd && sameShard(a.State, b.State)
}

func whole[T any](list []T) []T { return list[:cap(list)] }

// stretched is a shard with the spare room of its lists too.
func stretched(s api.Shard) api.Shard {
	s.Jobs, s.Seen = whole(s.Jobs), slices.Clone(whole(s.Seen))
	for i := range s.Seen {
		s.Seen[i].Result.Jobs = whole(s.Seen[i].Result.Jobs)
	}
	return s
}

func spoil[T any](list []T, with T) {
	list = whole(list)
	for i := range list {
		list[i] = with
	}
}

// spoilShard writes over all the lists of a shard, and their spare room: whoever shares memory with it shows that.
func spoilShard(s api.Shard) {
	for _, seen := range whole(s.Seen) {
		spoil(seen.Result.Jobs, spoiltJob)
	}
	spoil(s.Seen, api.Seen{Client: -8})
	spoil(s.Jobs, spoiltJob)
}

// loan is what a call is lent.
type loan struct {
	a       api.Atlas
	have, s api.Shard
	r       api.Result
}

func (l loan) lent() loan {
	return loan{lendMap(l.a), lendShard(l.have), lendShard(l.s), lendResult(l.r)}
}

// stays tells whether what was lent is as it was lent, spare room too.
func (l loan) stays(was loan) bool {
	was = was.lent()
	l.a.Spans, was.a.Spans = whole(l.a.Spans), whole(was.a.Spans)
	l.r.Jobs, was.r.Jobs = whole(l.r.Jobs), whole(was.r.Jobs)
	return sameMap(l.a, was.a) && sameResult(l.r, was.r) && sameShard(stretched(l.have), stretched(was.have)) && sameShard(stretched(l.s), stretched(was.s))
}

func (l loan) spoil() {
	spoil(l.a.Spans, api.Span{Shard: -8})
	spoil(l.r.Jobs, spoiltJob)
	spoilShard(l.have)
	spoilShard(l.s)
}

func (l loan) told() string {
	return fmt.Sprintf("%s, has %s, answered %d and %s", toldMap(l.a), toldShard(l.have), l.r.Err, toldShard(l.s))
}

// answer is what a call answers: a group, an order and whether there is one, or what it has then and what is done.
type answer struct {
	group int
	order api.Order
	ok    bool
	has   api.Shard
	done  int
}

func ofNext(group int, o api.Order, ok bool) answer { return answer{group: group, order: o, ok: ok} }

func ofHeard(s api.Shard, done int) answer { return answer{has: s, done: done} }

func (x answer) same(y answer) bool {
	return x.group == y.group && sameOrder(x.order, y.order) && x.ok == y.ok && sameShard(x.has, y.has) && x.done == y.done
}

func (x answer) copied() answer {
	x.order.State, x.has = copiedShard(x.order.State), copiedShard(x.has)
	return x
}

// apart tells whether no two lists of the answer share memory. It spoils the answer.
func (x answer) apart() bool {
	var lists [][]api.Job
	for _, s := range []api.Shard{x.order.State, x.has} {
		lists = append(lists, s.Jobs)
		for _, seen := range s.Seen {
			lists = append(lists, seen.Result.Jobs)
		}
	}
	for i, list := range lists {
		spoil(list, api.Job{Mark: int64(-i)})
	}
	for i, list := range lists {
		for _, j := range whole(list) {
			if j != (api.Job{Mark: int64(-i)}) {
				return false
			}
		}
	}
	return true
}

func (x answer) told() string {
	return fmt.Sprintf("%d, %s, %t; has %s, %d", x.group, toldOrder(x.order), x.ok, toldShard(x.has), x.done)
}

func toldShard(s api.Shard) string {
	var names, seats []string
	for _, j := range s.Jobs[:min(len(s.Jobs), 9)] {
		names = append(names, fmt.Sprintf("%q/%d", j.Name, j.Mark))
	}
	for _, seen := range s.Seen[:min(len(s.Seen), 9)] {
		seats = append(seats, fmt.Sprintf("%d:%d", seen.Client, seen.Seq))
	}
	return fmt.Sprintf("{%d %d %d %.20q %.20q; %s; %s}", s.Id, s.Epoch, s.State, s.From, s.To, strings.Join(names, " "), strings.Join(seats, " "))
}

func toldOrder(o api.Order) string {
	return fmt.Sprintf("{%d %d %d Other %d Past %d Key %.20q Cmd %+v State %s}", o.Kind, o.Shard, o.Epoch, o.Other, o.Past, o.Key, o.Cmd, toldShard(o.State))
}

func toldMap(a api.Atlas) string {
	return fmt.Sprintf("%d groups, last %d, plan %+v, spans %.400s", a.Groups, a.Last, a.Plan, fmt.Sprint(a.Spans))
}

// hold makes a call with what it lends, holds it against the paper, and looks whether the call leaves what it is lent, answers the same once more, and shares no memory.
func hold(t testing.TB, name string, l loan, want answer, call func(loan) answer) answer {
	t.Helper()
	fail := func(what string, x answer) {
		t.Helper()
		t.Errorf("%s: %s of %s:\n     %s,\nwant %s", what, name, l.told(), x.told(), want.told())
	}
	lent := l.lent()
	first := call(lent)
	got := first.copied()
	if !got.same(want) {
		fail("not by the paper", got)
	}
	second := call(lent)
	if !lent.stays(l) {
		fail("rule 5: what is lent is changed: "+lent.told(), got)
	}
	lent.spoil()
	if !first.same(got) {
		fail("rule 5: the answer shares memory with an argument", first)
	}
	if !first.apart() {
		fail("rule 5: two lists of the answer share memory", got)
	}
	spoilShard(first.order.State)
	spoilShard(first.has)
	if !second.same(got) {
		fail("rules 5, 6: once more", second)
	}
	return got
}

func next(t testing.TB, a api.Atlas, have api.Shard) answer {
	t.Helper()
	call := func(l loan) answer { return ofNext(mover.Next(l.a, l.have)) }
	return hold(t, "P20.1: Next", loan{a: a, have: have}, ofNext(paperNext(a, have)), call)
}

func heard(t testing.TB, a api.Atlas, have api.Shard, r api.Result, s api.Shard) answer {
	t.Helper()
	call := func(l loan) answer { return ofHeard(mover.Heard(l.a, l.have, l.r, l.s)) }
	return hold(t, "P20.2: Heard", loan{a, have, s, r}, ofHeard(paperHeard(a, have, r, s)), call)
}

// goesOut looks whether an order goes out as it should.
func goesOut(t testing.TB, a api.Atlas, have api.Shard, group int, o api.Order) {
	t.Helper()
	if x := next(t, a, have); !x.same(answer{group: group, order: o, ok: true}) {
		t.Errorf("P20.1: Next of %s, has %s:\n     %s,\nwant %d, %s", toldMap(a), toldShard(have), x.told(), group, toldOrder(o))
	}
}

// idle looks whether no order goes out, and whatever is heard then means nothing.
func idle(t testing.TB, a api.Atlas, have api.Shard) {
	t.Helper()
	if x := next(t, a, have); !x.same(answer{}) {
		t.Errorf("P20.1: Next of %s, has %s: %s", toldMap(a), toldShard(have), x.told())
	}
	for _, err := range errnos {
		for _, s := range []api.Shard{{}, shardOf(2, 20, api.Frozen)} {
			means(t, a, have, resultOf(err), s, have, 0)
		}
	}
}

// means looks whether an answer means what it should.
func means(t testing.TB, a api.Atlas, have api.Shard, r api.Result, s, has api.Shard, done int) {
	t.Helper()
	if x := heard(t, a, have, r, s); !x.same(answer{has: has, done: done}) {
		t.Errorf("P20.2: Heard of %s, has %s, %d and %s:\n     %s,\nwant %s, %d", toldMap(a), toldShard(have), r.Err, toldShard(s), x.told(), toldShard(has), done)
	}
}

// errnos are all of DOC.md.
var errnos = []api.Errno{0, 1, 2, 3, 4, 20, 21, 22, 30, 40, 50, 51, 60, 80, 150, 151, 160, 170, 171, 172, 173, 180, 181, 240}

// resultOf is a Result with an error, and with all else that a Result may have.
func resultOf(err api.Errno) api.Result {
	return api.Result{Err: err, Time: 77, Jobs: []api.Job{jobOf("told")}}
}

func jobOf(name string) api.Job {
	return api.Job{Name: name, Expr: "0 0 * * *", Zone: "utc", Token: "tok-" + name, Client: 1 + len(name), Seq: 7, Mark: 100 + int64(name[0])}
}

// shardOf is a shard of the names from "h" to "p", with jobs and sessions, whatever its State.
func shardOf(id int, epoch int64, state int) api.Shard {
	told := []api.Job{jobOf("k"), jobOf("was")}
	return api.Shard{Id: id, Epoch: epoch, State: state, From: "h", To: "p", Jobs: []api.Job{jobOf("i"), jobOf("k"), jobOf("m")}, Seen: []api.Seen{
		{Client: 2, Seq: 9, Result: api.Result{Time: 5, Jobs: told}},
		{Client: 5, Seq: int64(id), Result: api.Result{Err: api.ErrMiss}},
		{Client: 9, Seq: 1, Result: api.Result{Jobs: told[:1]}},
	}}
}
