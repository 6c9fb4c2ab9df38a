package route_test

import (
	"fmt"
	"slices"
	"testing"

	"matins/api"
	"matins/route"
)

const spare = 2 // places of spare room behind each list that is handed in

var (
	roomJob    = api.Job{Name: "room", Client: -7}
	roomSpan   = api.Span{From: "room", To: "spare", Shard: -7, Epoch: -7, Group: -7}
	spoiltJob  = api.Job{Name: "spoilt", Seq: -8}
	spoiltSpan = api.Span{From: "spoilt", Shard: -8}
)

// withRoom is a list in new memory with spare room that is filled; nil stays nil.
func withRoom[T any](list []T, room T) []T {
	if list == nil {
		return nil
	}
	all := make([]T, len(list), len(list)+spare)
	copy(all, list)
	for i := range spare {
		all[:cap(all)][len(list)+i] = room
	}
	return all
}

func whole[T any](list []T) []T { return list[:cap(list)] }

func spoil[T any](list []T, with T) {
	list = whole(list)
	for i := range list {
		list[i] = with
	}
}

func sameResult(a, b api.Result) bool {
	return a.Err == b.Err && a.Time == b.Time && slices.Equal(a.Jobs, b.Jobs)
}

func sameMap(a, b api.Atlas) bool {
	return a.Groups == b.Groups && a.Last == b.Last && slices.Equal(a.Spans, b.Spans) && a.Plan == b.Plan
}

func sameWay(a, b api.Route) bool {
	return a.Nodes == b.Nodes && a.Name == b.Name && sameMap(a.Map, b.Map) && a.Fetch == b.Fetch && a.Node == b.Node && a.Left == b.Left && a.Done == b.Done && sameResult(a.Result, b.Result)
}

func sameReply(a, b api.Reply) bool {
	return a.Kind == b.Kind && a.Hint == b.Hint && sameResult(a.Result, b.Result) && sameMap(a.Map, b.Map)
}

func copiedWay(r api.Route) api.Route {
	r.Map.Spans, r.Result.Jobs = slices.Clone(r.Map.Spans), slices.Clone(r.Result.Jobs)
	return r
}

// loan is what a call is lent.
type loan struct {
	known api.Atlas
	r     api.Route
	p     api.Reply
}

// lists are all the lists of a loan.
func (l *loan) lists() ([]*[]api.Span, []*[]api.Job) {
	return []*[]api.Span{&l.known.Spans, &l.r.Map.Spans, &l.p.Map.Spans}, []*[]api.Job{&l.r.Result.Jobs, &l.p.Result.Jobs}
}

func (l loan) each(span func([]api.Span) []api.Span, job func([]api.Job) []api.Job) loan {
	spans, jobs := l.lists()
	for _, list := range spans {
		*list = span(*list)
	}
	for _, list := range jobs {
		*list = job(*list)
	}
	return l
}

func (l loan) lent() loan {
	return l.each(func(list []api.Span) []api.Span { return withRoom(list, roomSpan) }, func(list []api.Job) []api.Job { return withRoom(list, roomJob) })
}

// stays tells whether what was lent is as it was lent, spare room too.
func (l loan) stays(was loan) bool {
	l, was = l.each(whole, whole), was.lent().each(whole, whole)
	return sameMap(l.known, was.known) && sameWay(l.r, was.r) && sameReply(l.p, was.p)
}

func (l loan) spoil() {
	spans, jobs := l.lists()
	for _, list := range spans {
		spoil(*list, spoiltSpan)
	}
	for _, list := range jobs {
		spoil(*list, spoiltJob)
	}
}

func (l loan) told() string {
	return fmt.Sprintf("%s, told %s, knows %s", toldWay(l.r), toldReply(l.p), toldMap(l.known))
}

// answer is what a call answers: a way and an error, whether it is right, or where it asks.
type answer struct {
	r                  api.Route
	err                api.Errno
	right              bool
	group, node, shard int
	epoch              int64
}

func ofBegin(r api.Route, err api.Errno) answer { return answer{r: r, err: err} }

func ofWhere(group, node, shard int, epoch int64) answer {
	return answer{group: group, node: node, shard: shard, epoch: epoch}
}

func (x answer) same(y answer) bool {
	return sameWay(x.r, y.r) && x.err == y.err && x.right == y.right && x.group == y.group && x.node == y.node && x.shard == y.shard && x.epoch == y.epoch
}

func (x answer) copied() answer {
	x.r = copiedWay(x.r)
	return x
}

func (x answer) told() string {
	return fmt.Sprintf("%s, error %d, right %t, asks %d %d %d %d", toldWay(x.r), x.err, x.right, x.group, x.node, x.shard, x.epoch)
}

func toldMap(a api.Atlas) string {
	return fmt.Sprintf("(%d groups, last %d, plan %+v, spans %.300s)", a.Groups, a.Last, a.Plan, fmt.Sprint(a.Spans))
}

func toldResult(r api.Result) string {
	return fmt.Sprintf("(%d at %d, %d jobs %.99s)", r.Err, r.Time, len(r.Jobs), fmt.Sprint(r.Jobs))
}

func toldReply(p api.Reply) string {
	return fmt.Sprintf("{%d hint %d result %s map %s}", p.Kind, p.Hint, toldResult(p.Result), toldMap(p.Map))
}

func toldWay(r api.Route) string {
	return fmt.Sprintf("{%d nodes, %.20q, map %s, fetch %t, node %d, left %d, done %t, result %s}", r.Nodes, r.Name, toldMap(r.Map), r.Fetch, r.Node, r.Left, r.Done, toldResult(r.Result))
}

// hold makes a call with what it lends, holds it against the paper, and looks whether the call leaves what it is lent, answers the same once more, and shares no memory.
func hold(t testing.TB, name string, l loan, want answer, call func(loan) answer) answer {
	t.Helper()
	fail := func(what string, x answer) {
		t.Helper()
		t.Errorf("%s: %s of %s:\n     %s,\nwant %s", what, name, l.told(), x.told(), want.told())
	}
	lent := l.lent()
	first := call(lent)
	got := first.copied()
	if !got.same(want) {
		fail("not by the paper", got)
	}
	second := call(lent)
	if !lent.stays(l) {
		fail("rule 5: what is lent is changed: "+lent.told(), got)
	}
	lent.spoil()
	if !first.same(got) {
		fail("rule 5: the answer shares memory with an argument", first)
	}
	spoil(first.r.Map.Spans, spoiltSpan)
	spoil(first.r.Result.Jobs, spoiltJob)
	if !second.same(got) {
		fail("rules 5, 6: once more", second)
	}
	return got
}

func begin(t testing.TB, nodes int, name string, known api.Atlas, tries int) answer {
	t.Helper()
	call := func(l loan) answer { return ofBegin(route.Begin(nodes, name, l.known, tries)) }
	what := fmt.Sprintf("P21.1: Begin(%d, %.20q, .., %d)", nodes, name, tries)
	x := hold(t, what, loan{known: known}, paperBegin(nodes, name, known, tries), call)
	if x.err == api.OK && !check(t, x.r) {
		t.Errorf("P21.4: %s isn't right", toldWay(x.r))
	}
	return x
}

func check(t testing.TB, r api.Route) bool {
	t.Helper()
	call := func(l loan) answer { return answer{right: route.Check(l.r)} }
	return hold(t, "P21.1: Check", loan{r: r}, answer{right: paperCheck(r)}, call).right
}

func where(t testing.TB, r api.Route) answer {
	t.Helper()
	call := func(l loan) answer { return ofWhere(route.Where(l.r)) }
	return hold(t, "P21.2: Where", loan{r: r}, paperWhere(r), call)
}

// heard makes the call, and holds the way behind it against P21.4 too.
func heard(t testing.TB, r api.Route, p api.Reply) api.Route {
	t.Helper()
	call := func(l loan) answer { return answer{r: route.Heard(l.r, l.p)} }
	got := hold(t, "P21.3: Heard", loan{r: r, p: p}, paperHeard(r, p), call).r
	fail := func(what string) {
		t.Helper()
		t.Errorf("P21.4: %s: %s, told %s: %s", what, toldWay(r), toldReply(p), toldWay(got))
	}
	switch right := paperCheck(r); {
	case right != route.Check(got):
		fail("right or not")
	case !right || r.Done:
		if !sameWay(r, got) {
			fail("it is over, and changes")
		}
	case got.Done:
		lost := sameResult(got.Result, api.Result{Err: api.ErrLost}) && got.Left == 0
		if !lost && !(p.Kind == api.Answered && sameResult(got.Result, p.Result)) {
			fail("a Result from nowhere")
		}
	case got.Left != r.Left-1:
		fail("Left doesn't fall")
	}
	return got
}

// wantCheck looks whether a way is right as it should be.
func wantCheck(t testing.TB, r api.Route, want bool) {
	t.Helper()
	if got := check(t, r); got != want {
		t.Errorf("P21.1: Check of %s: %t", toldWay(r), got)
	}
}

// asks looks whether a way asks where it should.
func asks(t testing.TB, r api.Route, group, node, shard int, epoch int64) {
	t.Helper()
	if x := where(t, r); !x.same(ofWhere(group, node, shard, epoch)) {
		t.Errorf("P21.2: Where of %s: %d %d %d %d, want %d %d %d %d", toldWay(r), x.group, x.node, x.shard, x.epoch, group, node, shard, epoch)
	}
}

// turns looks whether a way is behind a reply what it should be.
func turns(t testing.TB, r api.Route, p api.Reply, want api.Route) {
	t.Helper()
	if got := heard(t, r, p); !sameWay(got, want) {
		t.Errorf("P21.3: Heard of %s, told %s:\n     %s,\nwant %s", toldWay(r), toldReply(p), toldWay(got), toldWay(want))
	}
}
