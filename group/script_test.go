package group_test

import (
	"fmt"
	"math/rand"
	"slices"
	"strings"
	"sync"
	"testing"

	"matins/api"
	"matins/group"
)

// mood is how likely acts are, held against each other; Fail is one step of so many.
type mood struct {
	tick, deliver, drop, double, propose, crash, restart, cut, join, pack, wrong int
	fail                                                                         int
}

func moods() []mood {
	return []mood{
		{tick: 25, deliver: 60, propose: 8, restart: 1, join: 1, pack: 4, wrong: 1, fail: 1000},                                     // calm
		{tick: 20, deliver: 70, drop: 4, double: 4, propose: 8, crash: 1, restart: 1, cut: 1, join: 1, pack: 5, wrong: 1, fail: 80}, // busy
		{tick: 30, deliver: 50, drop: 6, double: 4, propose: 6, crash: 2, restart: 8, cut: 3, join: 4, pack: 2, wrong: 1, fail: 20}, // rough
		{tick: 60, deliver: 40, drop: 10, double: 2, propose: 4, crash: 1, restart: 3, cut: 3, join: 2, wrong: 1, fail: 40},         // away from each other
		{tick: 12, deliver: 60, double: 8, propose: 20, crash: 1, restart: 1, cut: 1, join: 1, pack: 6, wrong: 1, fail: 60},         // much is proposed
		{tick: 12, deliver: 60, drop: 2, propose: 30, crash: 1, restart: 6, join: 4, wrong: 1, fail: 200},                           // as much, and nothing is packed by hand
		{tick: 30, deliver: 60, drop: 4, propose: 6, crash: 6, restart: 10, cut: 1, join: 4, pack: 3, fail: 8},                      // crash behind crash
	}
}

func some(c *rand.Rand, list ...int) int { return list[c.Intn(len(list))] }

// someKind is a Kind by its likeness; 0: anything wrong.
func (m mood) someKind(c *rand.Rand) int {
	likely := []int{
		api.ActTick: m.tick, api.ActDeliver: m.deliver, api.ActDrop: m.drop, api.ActDouble: m.double, api.ActPropose: m.propose, api.ActCrash: m.crash,
		api.ActRestart: m.restart, api.ActCut: m.cut, api.ActJoin: m.join, api.ActPack: m.pack, 0: m.wrong,
	}
	all := 0
	for _, n := range likely {
		all += n
	}
	at := c.Intn(all)
	for kind, n := range likely {
		if at < n {
			return kind
		}
		at -= n
	}
	return 0
}

// nodeThat is a node by chance of those whose view fits, else any.
func (x *desk) nodeThat(c *rand.Rand, fits func(v api.View) bool) int {
	var list []int
	for i, id := range x.conf {
		if fits(x.was.views[i]) {
			list = append(list, id)
		}
	}
	if len(list) == 0 {
		list = x.conf
	}
	return some(c, list...)
}

func isUp(v api.View) bool { return v.Up }

func isDown(v api.View) bool { return !v.Up }

func leads(v api.View) bool { return v.Role == api.Leader }

func (x *desk) somePacket(c *rand.Rand) int {
	list := x.was.flight
	switch {
	case len(list) == 0:
		return 1
	case c.Intn(3) == 0:
		return list[0].Id
	case c.Intn(2) == 0:
		return list[len(list)-1].Id
	}
	return list[c.Intn(len(list))].Id
}

// someAct is an act by chance; one node ticks more often than others, so that it comes to lead.
func (x *desk) someAct(c *rand.Rand, m mood, quick int) api.Act {
	kind := m.someKind(c)
	if kind == api.ActDeliver && len(x.was.flight) == 0 {
		kind = api.ActTick
	}
	a := api.Act{Kind: kind, Node: x.nodeThat(c, isUp), Other: some(c, x.conf...), Draw: c.Intn(40), Id: x.somePacket(c)}
	switch a.Kind {
	case api.ActTick:
		if c.Intn(2) == 0 && x.view(quick).Up {
			a.Node = quick
		}
	case api.ActPropose:
		a.Data = fmt.Sprintf("%d %s", x.acts, strings.Repeat("d", c.Intn(9)))
		if c.Intn(8) > 0 {
			a.Node = x.nodeThat(c, leads)
		}
		if c.Intn(30) == 0 {
			a.Data = strings.Repeat("d", some(c, 0, 0, api.MaxData, api.MaxData+1))
		}
	case api.ActRestart:
		a.Node = x.nodeThat(c, isDown)
	case api.ActCrash, api.ActPack:
		if c.Intn(2) == 0 {
			a.Node = x.nodeThat(c, leads)
		}
	case 0:
		a.Kind, a.Node, a.Id = c.Intn(14)-1, some(c, -1, 0, x.conf[0]-1, x.conf[len(x.conf)-1]+1, x.conf[0]), some(c, -1, 0, 1, 1<<40, a.Id)
	}
	if c.Intn(m.fail) == 0 {
		a.Fail = true
	}
	a.Keep, a.Torn = c.Intn(5)-1, c.Intn(24)-1
	return a
}

// script does so many acts by chance, in moods that change.
func (x *desk) script(c *rand.Rand, acts int) {
	x.t.Helper()
	var m mood
	quick := 0
	for n := range acts {
		if n%120 == 0 {
			m, quick = moods()[c.Intn(len(moods()))], some(c, x.conf...)
		}
		if len(x.was.flight) > 30 {
			x.ok(api.Act{Kind: api.ActDrop, Id: x.was.flight[0].Id})
		}
		was := x.was
		a := x.someAct(c, m, quick)
		err := x.do(a)
		x.width(a, err, was)
	}
}

// width counts what came about, so that a test tells when its scripts are too narrow.
func (x *desk) width(a api.Act, err api.Errno, was state) {
	if x.counts == nil {
		return
	}
	x.counts[fmt.Sprintf("act %d", a.Kind)]++
	if err != api.OK {
		x.counts[fmt.Sprintf("error %d", err)]++
	}
	x.counts["leaders"] += len(x.was.leaders) - len(was.leaders)
	x.counts["agreed"] += len(x.was.agreed) - len(was.agreed)
	for i := range x.conf {
		v, old := x.was.views[i], was.views[i]
		switch {
		case old.Up && !v.Up && a.Kind != api.ActCrash:
			x.counts["failed"]++
		case !old.Up && v.Up && v.Base > 0:
			x.counts["restarts with a Snap"]++
		case old.Up && v.Base > old.Base && a.Kind == api.ActDeliver:
			x.counts["bundles"]++
		case old.Up && x.was.records[i] < was.records[i] && a.Kind != api.ActPack && v.Base == old.Base:
			x.counts["packed by itself"]++
		}
	}
}

func TestScripts(t *testing.T) {
	counts := map[string]int{}
	for i, conf := range [][]int{{1}, {4}, {1, 2}, {3, 9}, {1, 2, 3}, {1, 2, 3}, {2, 3, 1000}, {1, 2, 3, 4}, {1, 2, 3, 4, 5}, {1, 3, 5, 6, 7}, {1, 2, 3, 4, 5, 6}, {1, 2, 3, 4, 5, 6, 7}} {
		for j := range 3 {
			c := rand.New(rand.NewSource(int64(100*i + j)))
			x := newDesk(t, conf...)
			x.counts = counts
			x.script(c, 3000)
		}
	}
	least := map[string]int{"leaders": 150, "agreed": 1000, "failed": 300, "restarts with a Snap": 100, "bundles": 40, "packed by itself": 20}
	for kind := range api.ActPack + 1 {
		least[fmt.Sprintf("act %d", kind)] = 20
	}
	for _, err := range []api.Errno{api.ErrArg, api.ErrState, api.ErrMiss} {
		least[fmt.Sprintf("error %d", err)] = 50
	}
	for what, n := range least {
		if counts[what] < n {
			t.Errorf("%s: %d times alone, want %d", what, counts[what], n)
		}
	}
}

// mend puts all nodes up, with nothing cut and nothing in flight.
func (x *desk) mend() {
	x.t.Helper()
	for i, id := range x.conf {
		if !x.was.views[i].Up {
			x.restart(id)
		}
		for _, other := range x.conf {
			x.ok(api.Act{Kind: api.ActJoin, Node: id, Other: other})
		}
	}
	x.drop()
}

// round has each node tick once, and all packets delivered.
func (x *desk) round() {
	x.t.Helper()
	for _, id := range x.conf {
		x.tick(id, 1)
	}
	first := x.acts
	x.deliver()
	if x.acts-first > 400 {
		x.t.Fatalf("P22.5: %d: %d packets in a round", x.conf, x.acts-first)
	}
}

// aboveAll is the node that leads above whose term no other's is; 0: none.
func (x *desk) aboveAll() int {
	top := int64(0)
	for i := range x.conf {
		top = max(top, x.was.views[i].Term)
	}
	for i, id := range x.conf {
		if v := x.was.views[i]; v.Role == api.Leader && v.Term == top {
			return id
		}
	}
	return 0
}

// holdAll tells whether all nodes hold an entry with this Data for agreed on.
func (x *desk) holdAll(data string) bool {
	at := slices.IndexFunc(x.was.agreed, func(e api.Entry) bool { return e.Data == data })
	for i := range x.conf {
		if at < 0 || x.was.views[i].Commit <= int64(at) {
			return false
		}
	}
	return true
}

// settle holds P22.5, and answers behind how many rounds a node led.
func (x *desk) settle() int {
	x.t.Helper()
	x.mend()
	rounds, leader := 0, 0
	for ; leader == 0; leader = x.aboveAll() {
		rounds++
		if rounds > 600 {
			x.t.Fatalf("P22.5: %d: no leader: %s", x.conf, x.was.told())
		}
		x.round()
	}
	data := fmt.Sprintf("settled %d", x.acts)
	x.propose(leader, data)
	for n := 0; !x.holdAll(data); n++ {
		if n == 6 {
			x.t.Fatalf("P22.5: %d: %q is not agreed on by all: %s", x.conf, data, x.was.told())
		}
		x.round()
	}
	return rounds
}

func TestSettle(t *testing.T) {
	most, states := 0, 0
	for i, conf := range [][]int{{1}, {7}, {1, 2}, {6, 7}, {1, 2, 3}, {2, 4, 6}, {5, 6, 7}, {1, 2, 3, 4}, {1, 3, 5, 7}, {1, 2, 3, 4, 5}, {3, 4, 5, 6, 7}, {1, 2, 4, 5, 7}} {
		for j := range 4 {
			c := rand.New(rand.NewSource(int64(7000 + 100*i + j)))
			x := newDesk(t, conf...)
			for range 3 { // a state that was settled is one to go on from, too
				x.script(c, c.Intn(300))
				most = max(most, x.settle())
				states++
			}
		}
	}
	if most < 15 || states < 100 {
		t.Errorf("%d states, none behind more than %d rounds", states, most)
	}
}

// Each node apart stands again and again: their terms are far from each other then.
func TestSettleBehindALongWhileAway(t *testing.T) {
	for _, conf := range [][]int{{1, 2}, {1, 2, 3}, {1, 2, 3, 4, 5}, {3, 4, 5, 6, 7}} {
		for away := range conf {
			x := newDesk(t, conf...)
			x.settle()
			for times := range 500 {
				x.ok(api.Act{Kind: api.ActTick, Node: conf[away], Draw: times % 7})
				if times%20 == 0 {
					x.drop()
				}
			}
			x.propose(x.leader(), "left behind")
			x.settle()
		}
	}
}

func (x *desk) leader() int {
	x.t.Helper()
	for i, id := range x.conf {
		if leads(x.was.views[i]) {
			return id
		}
	}
	x.settle()
	return x.aboveAll()
}

// Groups at one time don't touch each other.
func TestAtOneTime(t *testing.T) {
	play := func(seed int64) ([]api.Entry, []api.Item, []api.Packet) {
		c := rand.New(rand.NewSource(seed))
		g, _ := group.New([]int{1, 2, 3})
		for range 2000 {
			id := 1 + c.Intn(3)
			g.Do(api.Act{Kind: some(c, api.ActTick, api.ActPropose, api.ActCrash, api.ActRestart, api.ActRestart, api.ActPack), Node: id, Draw: c.Intn(20), Data: "x"})
			for _, p := range g.Flight() {
				if c.Intn(8) > 0 {
					g.Do(api.Act{Kind: api.ActDeliver, Id: p.Id})
				}
			}
		}
		return g.Agreed(), g.Leaders(), g.Flight()
	}
	var wait sync.WaitGroup
	for seed := range int64(6) {
		wait.Add(1)
		go func() {
			defer wait.Done()
			agreed, leaders, flight := play(seed / 2)
			again, led, left := play(seed / 2)
			if !slices.Equal(agreed, again) || !slices.Equal(leaders, led) || !slices.Equal(flight, left) {
				t.Errorf("P22.1: seed %d: two groups of one script tell unlike things", seed)
			}
		}()
	}
	wait.Wait()
}
