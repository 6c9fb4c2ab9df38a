package group_test

import (
	"fmt"
	"math/rand"
	"slices"
	"strings"
	"testing"

	"matins/api"
	"matins/group"
)

const spare = 2 // places of spare room behind each list that is handed in

// withRoom is a list in new memory with spare room that is filled; nil stays nil.
func withRoom[T any](list []T, room T) []T {
	if list == nil {
		return nil
	}
	all := make([]T, len(list), len(list)+spare)
	copy(all, list)
	for i := range spare {
		all[:cap(all)][len(list)+i] = room
	}
	return all
}

func whole[T any](list []T) []T { return list[:cap(list)] }

func spoil[T any](list []T, with T) {
	list = whole(list)
	for i := range list {
		list[i] = with
	}
}

var (
	roomEntry   = api.Entry{Term: -7, Data: "room"}
	spoiltEntry = api.Entry{Term: -8, Data: "spoilt"}
)

// state is all that a group tells.
type state struct {
	views   []api.View
	errs    []api.Errno
	records []int
	agreed  []api.Entry
	leaders []api.Item
	broken  bool
	flight  []api.Packet
}

func (s state) same(o state) bool {
	return slices.Equal(s.views, o.views) && slices.Equal(s.errs, o.errs) && slices.Equal(s.records, o.records) && slices.Equal(s.agreed, o.agreed) && slices.Equal(s.leaders, o.leaders) && s.broken == o.broken && slices.Equal(s.flight, o.flight)
}

func (s state) told() string {
	return fmt.Sprintf("views %+v, errors %d, records %d, %d agreed %.200q, leaders %d, broken %t, %d in flight %.200q", s.views, s.errs, s.records, len(s.agreed), fmt.Sprint(s.agreed), s.leaders, s.broken, len(s.flight), fmt.Sprint(s.flight))
}

// held is what P22.4 holds a node to that goes down.
type held struct {
	term int64
	vote int
}

// desk is a group with the paper beside it.
type desk struct {
	t      testing.TB
	conf   []int
	g      *group.Group
	p      *paper
	was    state
	forged bool         // what no node sent was put into flight
	synced map[int]held // each node's Term and Vote behind its last step that was synced
	failed map[int]bool // whether the step behind that failed, or its store was refused something
	acts   int
	chance *rand.Rand
	counts map[string]int // what scripts by chance came to; nil: nobody asks
}

// stuffed is an act with anything in fields that its Kind doesn't name.
func stuffed(c *rand.Rand, a api.Act) api.Act {
	some := func() int { return []int{-1, 0, 1, 2, 3, c.Int(), -c.Int()}[c.Intn(7)] }
	s := api.Act{
		Kind: a.Kind, Group: some(), Node: some(), Other: some(), Id: some(), Draw: some(), Keep: some(), Torn: some(), Fail: some() > 0,
		Data: strings.Repeat("s", c.Intn(9)), Time: int64(some()), Cmd: api.Cmd{Kind: some(), Name: "s"}, Plan: api.Plan{Kind: some(), Key: "s"},
	}
	fails := func() {
		s.Fail = a.Fail
		if a.Fail { // else Keep and Torn play no part
			s.Keep, s.Torn = a.Keep, a.Torn
		}
	}
	switch a.Kind {
	case api.ActTick:
		s.Node, s.Draw = a.Node, a.Draw
		fails()
	case api.ActDeliver:
		s.Id = a.Id
		fails()
	case api.ActDrop, api.ActDouble:
		s.Id = a.Id
	case api.ActPropose:
		s.Node, s.Data = a.Node, a.Data
		fails()
	case api.ActCrash:
		s.Node, s.Keep, s.Torn = a.Node, a.Keep, a.Torn
	case api.ActRestart, api.ActPack:
		s.Node = a.Node
	case api.ActCut, api.ActJoin:
		s.Node, s.Other = a.Node, a.Other
	}
	return s
}

func newDesk(t testing.TB, conf ...int) *desk {
	t.Helper()
	lent := withRoom(conf, -7)
	g, err := group.New(lent)
	if g == nil || err != api.OK {
		t.Fatalf("P22.1: New(%d): %v, %d", conf, g, err)
	}
	if !slices.Equal(whole(lent), whole(withRoom(conf, -7))) {
		t.Fatalf("rule 5: New(%d) changes what it is lent: %d", conf, whole(lent))
	}
	spoil(lent, -8)
	x := &desk{t: t, conf: conf, g: g, p: newPaper(conf), synced: map[int]held{}, failed: map[int]bool{}, chance: rand.New(rand.NewSource(22))}
	x.was = x.look("New")
	return x
}

// ids are the numbers of nodes that are asked for: all of the group, and some that there aren't.
func (x *desk) ids() []int {
	return append(slices.Clone(x.conf), 0, -1, x.conf[0]-1, x.conf[len(x.conf)-1]+1)
}

// tell asks a group for all that it tells, writes over the lists, and asks once more.
func (x *desk) tell(what string) state {
	x.t.Helper()
	ask := func() state {
		return state{agreed: x.g.Agreed(), leaders: x.g.Leaders(), broken: x.g.Broken(), flight: x.g.Flight()}
	}
	s := ask()
	keep := state{agreed: slices.Clone(s.agreed), leaders: slices.Clone(s.leaders), broken: s.broken, flight: slices.Clone(s.flight)}
	spoil(s.agreed, spoiltEntry)
	spoil(s.leaders, api.Item{Id: -8})
	spoil(s.flight, api.Packet{Id: -8})
	if again := ask(); !again.same(keep) {
		x.t.Errorf("rule 5: behind %s: an answer shares memory with the group: %s", what, again.told())
	}
	for _, id := range x.ids() {
		v, err := x.g.View(id)
		keep.views, keep.errs, keep.records = append(keep.views, v), append(keep.errs, err), append(keep.records, group.Records(x.g, id))
	}
	return keep
}

// look asks for all that a group tells, and holds it against the paper.
func (x *desk) look(what string) state {
	x.t.Helper()
	got := x.tell(what)
	want := state{agreed: x.p.agreed, leaders: x.p.leaders, broken: x.p.broken, flight: x.p.mesh.Flight()}
	for _, id := range x.ids() {
		v, err := x.p.view(id)
		want.views, want.errs, want.records = append(want.views, v), append(want.errs, err), append(want.records, x.p.records(id))
	}
	if !got.same(want) {
		x.t.Fatalf("P22.1: %d: behind act %d, %s: not by the paper:\n     %s,\nwant %s", x.conf, x.acts, what, got.told(), want.told())
	}
	return got
}

// do does an act, and holds all that the group tells behind it against the paper and the promises.
func (x *desk) do(a api.Act) api.Errno {
	x.t.Helper()
	x.acts++
	lent := a
	if x.chance.Intn(2) == 0 {
		lent = stuffed(x.chance, a)
	}
	what := fmt.Sprintf("%.300s", fmt.Sprintf("%+v", lent))
	got, want := x.g.Do(lent), x.p.do(a)
	if got != want {
		x.t.Fatalf("P22.1: %d: act %d, %s: %d, want %d", x.conf, x.acts, what, got, want)
	}
	now := x.look(what)
	x.refused(what, got, now)
	x.calm(what, now)
	x.kept(what, a, now)
	x.was = now
	return got
}

// refused holds rule 3: an act that is refused changes nothing, but a store that is refused something takes its node down.
func (x *desk) refused(what string, err api.Errno, now state) {
	x.t.Helper()
	if err == api.OK || err == api.ErrFull && !slices.Equal(x.was.views, now.views) {
		return
	}
	if !now.same(x.was) {
		x.t.Fatalf("rule 3: act %d, %s, is refused by %d and changes something: %s, was %s", x.acts, what, err, now.told(), x.was.told())
	}
}

// calm holds P22.3.
func (x *desk) calm(what string, now state) {
	x.t.Helper()
	if x.forged {
		return
	}
	fail := func(which string) {
		x.t.Helper()
		x.t.Fatalf("P22.3: %d: behind act %d, %s: %s: %s", x.conf, x.acts, what, which, now.told())
	}
	if now.broken {
		fail("broken")
	}
	led := map[int64]int{}
	for _, l := range now.leaders {
		if id, twice := led[l.At]; twice {
			fail(fmt.Sprintf("the term %d has the leaders %d and %d", l.At, id, l.Id))
		}
		led[l.At] = l.Id
	}
	if len(now.agreed) < len(x.was.agreed) || !slices.Equal(now.agreed[:len(x.was.agreed)], x.was.agreed) {
		fail("what was agreed on doesn't stay")
	}
	for i, v := range now.views[:len(x.conf)] {
		if v.Role == api.Leader && led[v.Term] != x.conf[i] {
			fail(fmt.Sprintf("node %d leads, and isn't noted", x.conf[i]))
		}
		if v == x.was.views[i] && len(now.agreed) == len(x.was.agreed) {
			continue
		}
		if v.Commit > int64(len(now.agreed)) {
			fail(fmt.Sprintf("node %d holds for agreed on what isn't noted", x.conf[i]))
		}
		if count, sum := comeTo(now.agreed[:v.Commit]); v.Up && (count != v.Count || sum != v.Sum) {
			fail(fmt.Sprintf("node %d: Count %d and Sum %d, want %d and %d", x.conf[i], v.Count, v.Sum, count, sum))
		}
	}
}

// kept holds P22.4.
func (x *desk) kept(what string, a api.Act, now state) {
	x.t.Helper()
	for i, id := range x.conf {
		v, old := now.views[i], x.was.views[i]
		switch {
		case v.Up && old.Up:
			x.synced[id], x.failed[id] = held{v.Term, v.Vote}, false
		case old.Up:
			x.failed[id] = a.Kind != api.ActCrash
		case v.Up:
			h := x.synced[id]
			same, late := v.Term == h.term && v.Vote == h.vote, v.Term > h.term || v.Term == h.term && h.vote == 0
			if !same && !(x.failed[id] && late) {
				x.t.Fatalf("P22.4: act %d, %s: node %d has the Term %d and the Vote %d, had %+v, failed %t", x.acts, what, id, v.Term, v.Vote, h, x.failed[id])
			}
			x.synced[id] = held{v.Term, v.Vote} // what a restart finds stays, with no step behind it too
		}
	}
}

func (x *desk) want(a api.Act, want api.Errno) {
	x.t.Helper()
	if got := x.do(a); got != want {
		x.t.Fatalf("P22.1: act %d, %+v: %d, want %d", x.acts, a, got, want)
	}
}

func (x *desk) ok(a api.Act) {
	x.t.Helper()
	x.want(a, api.OK)
}

// post puts a body into flight that no node sent; it answers its Id.
func (x *desk) post(from, to int, body string) int {
	group.Post(x.g, from, to, body)
	x.p.mesh.Send(from, to, body)
	x.forged = true
	x.was = x.look("Post")
	return x.was.flight[len(x.was.flight)-1].Id
}

func (x *desk) tick(id, times int) {
	x.t.Helper()
	for range times {
		x.ok(api.Act{Kind: api.ActTick, Node: id, Draw: id * 3})
	}
}

func (x *desk) propose(id int, data string) {
	x.t.Helper()
	x.ok(api.Act{Kind: api.ActPropose, Node: id, Data: data})
}

func (x *desk) restart(id int) {
	x.t.Helper()
	x.ok(api.Act{Kind: api.ActRestart, Node: id})
}

func (x *desk) pack(id int) {
	x.t.Helper()
	x.ok(api.Act{Kind: api.ActPack, Node: id})
}

func (x *desk) crash(id, keep, torn int) {
	x.t.Helper()
	x.ok(api.Act{Kind: api.ActCrash, Node: id, Keep: keep, Torn: torn})
}

// deliver delivers all packets, by their Ids, till none is left.
func (x *desk) deliver() {
	x.t.Helper()
	for range 20000 {
		if len(x.was.flight) == 0 {
			return
		}
		x.ok(api.Act{Kind: api.ActDeliver, Id: x.was.flight[0].Id})
	}
	x.t.Fatalf("%d: packets without an end", x.conf)
}

// drop loses all packets.
func (x *desk) drop() {
	x.t.Helper()
	for _, p := range x.was.flight {
		x.ok(api.Act{Kind: api.ActDrop, Id: p.Id})
	}
}

// view is what is seen of a node of the group.
func (x *desk) view(id int) api.View { return x.was.views[slices.Index(x.conf, id)] }

func (x *desk) wantView(id int, want api.View) {
	x.t.Helper()
	if got := x.view(id); got != want {
		x.t.Errorf("P22.1: act %d: View(%d): %+v, want %+v", x.acts, id, got, want)
	}
}

func (x *desk) wantAgreed(want ...api.Entry) {
	x.t.Helper()
	if !slices.Equal(x.was.agreed, want) {
		x.t.Errorf("P22.1: act %d: agreed on %.300q, want %.300q", x.acts, fmt.Sprint(x.was.agreed), fmt.Sprint(want))
	}
}

func (x *desk) wantLeaders(want ...api.Item) {
	x.t.Helper()
	if !slices.Equal(x.was.leaders, want) {
		x.t.Errorf("P22.1: act %d: leaders %d, want %d", x.acts, x.was.leaders, want)
	}
}

// entry is an entry, as one of a test's table.
func entry(term int64, data string) api.Entry { return api.Entry{Term: term, Data: data} }

func led(id int, term int64) api.Item { return api.Item{Id: id, At: term} }

func wire(t testing.TB, m api.Message) string {
	t.Helper()
	lent := m
	lent.Entries = withRoom(m.Entries, roomEntry)
	got, want := group.Wire(lent), paperWire(m)
	if got != want {
		t.Errorf("P22.2: Wire(%.300s): %.300q, want %.300q", fmt.Sprintf("%+v", m), got, want)
	}
	if !slices.Equal(whole(lent.Entries), whole(withRoom(m.Entries, roomEntry))) {
		t.Errorf("rule 5: Wire changes what it is lent: %.300s", fmt.Sprintf("%+v", m))
	}
	return got
}

func sameMessage(a, b api.Message) bool {
	return a.Kind == b.Kind && a.From == b.From && a.To == b.To && a.Term == b.Term && a.Index == b.Index && a.LogTerm == b.LogTerm && a.Commit == b.Commit && a.Yes == b.Yes && slices.Equal(a.Entries, b.Entries) && a.Data == b.Data
}

func unwire(t testing.TB, body string) (api.Message, api.Errno) {
	t.Helper()
	got, err := group.Unwire(body)
	keep := got
	keep.Entries = slices.Clone(got.Entries)
	want, werr := paperUnwire(body)
	if err != werr || !sameMessage(got, want) {
		t.Errorf("P22.2: Unwire(%.300q): %.300s, %d, want %.300s, %d", body, fmt.Sprintf("%+v", got), err, fmt.Sprintf("%+v", want), werr)
	}
	spoil(got.Entries, spoiltEntry)
	if again, err := group.Unwire(body); err != werr || !sameMessage(again, keep) {
		t.Errorf("rule 5: Unwire(%.300q) once more: %.300s, %d", body, fmt.Sprintf("%+v", again), err)
	}
	return keep, err
}
