package mover_test

import (
	"fmt"
	"math/rand"
	"slices"
	"sync"
	"testing"

	"matins/api"
	"matins/atlas"
	"matins/jobs"
	"matins/mover"
	"matins/shard"
)

func pick[T any](r *rand.Rand, all []T) T { return all[r.Intn(len(all))] }

var names = []string{"a", "b", "bb", "c", "d", "f", "h", "k", "m", "n", "q", "z"}

// mail is something on its way: an order, or what is asked of the map, to where it goes, or an answer to the mover.
type mail struct {
	number int // of what was sent; an answer has that of what it answers
	what   int
	letter letter
	plan   api.Plan
	done   int
	reply  reply
	told   api.Atlas
}

const (
	anOrder  = 1
	aSettle  = 2
	aRead    = 3
	anAnswer = 4
	aMap     = 5
)

// play is a world in which all is sent by mail that is lost, late and doubled, with clients and launches, and beside it the one table that all shards together should be.
type play struct {
	t     *testing.T
	r     *rand.Rand
	w     world
	known api.Atlas // the map that the mover knows
	owes  int
	last  int // what it sent last
	count int
	mail  []mail
	old   []mail // all that was ever sent

	table    []api.Job
	asked    map[int]api.Cmd // of each client the command that it asks, or asked last
	served   map[int]int64   // of each client the last Seq that was done
	told     map[string]api.Result
	launched map[api.Launch]int
	now      int64
	deeds    map[string]int
}

func newPlay(t *testing.T, r *rand.Rand, deeds map[string]int) *play {
	a, _ := atlas.New(3)
	w := world{a: a, groups: [][]api.Shard{nil, {served(1, 1, "", "", nil)}, nil, nil}}
	return &play{t: t, r: r, w: w, asked: map[int]api.Cmd{}, served: map[int]int64{}, told: map[string]api.Result{}, launched: map[api.Launch]int{}, now: 1000, deeds: deeds}
}

func (p *play) did(what string) { p.deeds[what]++ }

func (p *play) post(m mail) {
	p.mail = append(p.mail, m)
	if m.what < anAnswer {
		p.old = append(p.old, m)
	}
}

// send is what the mover does next.
func (p *play) send() {
	p.count++
	p.last = p.count
	m := mail{number: p.count, what: aRead}
	switch {
	case p.owes != 0:
		m.what, m.plan, m.done = aSettle, p.known.Plan, p.owes
	case p.known.Plan.Kind != 0:
		x := next(p.t, p.known, p.w.have)
		if !x.ok {
			p.t.Fatalf("P20.1: Next of %s: %s", toldMap(p.known), x.told())
		}
		m.what, m.letter = anOrder, letter{x.group, x.order}
	}
	p.post(m)
}

func (p *play) forget() { p.w.have, p.owes, p.known, p.last = api.Shard{}, 0, api.Atlas{}, 0 }

// comes is mail that comes to where it goes.
func (p *play) comes(m mail) {
	switch m.what {
	case anOrder:
		got := p.w.arrive(m.letter)
		p.did(fmt.Sprintf("order %d: %d", m.letter.order.Kind, got.r.Err))
		p.post(mail{number: m.number, what: anAnswer, reply: got})
		return
	case aSettle:
		p.settle(m.plan, m.done)
		fallthrough
	case aRead:
		p.post(mail{number: m.number, what: aMap, told: p.w.a})
		return
	}
	if m.number != p.last {
		return
	}
	if m.what == aMap {
		if m.told.Plan != p.known.Plan {
			p.w.have = api.Shard{}
		}
		p.known, p.owes = m.told, 0
		return
	}
	x := heard(p.t, p.known, p.w.have, m.reply.r, m.reply.s)
	p.w.have, p.owes = x.has, x.done
	p.last = 0
}

// settle is what comes to the map, which looks whether it is of its plan.
func (p *play) settle(plan api.Plan, done int) {
	now := p.w.a.Plan
	if now.Kind != plan.Kind || now.Shard != plan.Shard || now.Epoch != plan.Epoch {
		return
	}
	a, err := p.w.a, api.OK
	if done == -1 {
		a, err = atlas.Abort(p.w.a)
	} else {
		a, err = atlas.Advance(p.w.a, done)
	}
	p.w.a = a
	if err == api.OK {
		p.did(fmt.Sprintf("settled %d %d", now.Kind, done))
	}
}

func (p *play) begin() {
	s := pick(p.r, p.w.a.Spans)
	plan := api.Plan{Kind: 1 + p.r.Intn(3), Shard: s.Shard, Group: 1 + p.r.Intn(3), Key: pick(p.r, names)}
	a, err := atlas.Begin(p.w.a, plan)
	if err == api.OK {
		p.w.a = a
		p.did(fmt.Sprint("begun ", plan.Kind))
	}
}

func (p *play) giveUp() {
	if p.w.mayEnd() {
		a, _ := atlas.Abort(p.w.a)
		p.w.a = a
		p.did("given up")
	}
}

// ask is a client's command, to where the map says its name is served.
func (p *play) ask() {
	client := 1 + p.r.Intn(4)
	c := p.asked[client]
	if p.served[client] == c.Seq && p.r.Intn(3) > 0 { // else it asks once more
		c = api.Cmd{Kind: 1 + p.r.Intn(5), Client: client, Seq: c.Seq + 1, Name: pick(p.r, names), Zone: "utc", Token: fmt.Sprint("t", p.count), Time: p.now}
		c.Expr = pick(p.r, []string{"*/30 * * * *", "0 * * * *", "15 3 * * *"})
		p.asked[client] = c
	}
	if c.Seq == 0 {
		return
	}
	s, _ := atlas.Find(p.w.a, c.Name)
	l := letter{s.Group, api.Order{Kind: api.OrdCmd, Shard: s.Shard, Epoch: s.Epoch, Cmd: c}}
	p.command(l)
	if p.r.Intn(6) == 0 {
		p.old = append(p.old, mail{what: anOrder, letter: l})
	}
}

// command does a client's command, now or long ago, and holds what it is answered against the one table.
func (p *play) command(l letter) {
	c := l.order.Cmd
	got := p.w.arrive(l).r
	p.did(fmt.Sprintf("command: %d", got.Err))
	key := fmt.Sprint(c.Client, " ", c.Seq)
	switch {
	case got.Err == api.ErrShard || got.Err == api.ErrEpoch || got.Err == api.ErrFrozen || got.Err == api.ErrRange:
	case c.Seq > p.served[c.Client]:
		table, want := jobs.Do(p.table, c)
		p.table, p.told[key], p.served[c.Client] = table, want, c.Seq
		if !sameResult(got, want) {
			p.t.Errorf("P20.3: %+v answers %+v, one table answers %+v", c, got, want)
		}
	case !sameResult(got, p.told[key]) && !(got.Err == api.ErrStale && c.Seq < p.served[c.Client]):
		p.t.Errorf("P20.3: %+v once more answers %+v, it was %+v", c, got, p.told[key])
	}
}

// launch does some of the orders that are due in a group.
func (p *play) launch() {
	p.now += int64(p.r.Intn(60))
	group := 1 + p.r.Intn(3)
	due := shard.Due(p.w.groups[group], p.now)
	for _, o := range due[:min(len(due), p.r.Intn(4))] {
		p.fire(letter{group, o})
		if p.r.Intn(3) == 0 {
			p.old = append(p.old, mail{what: anOrder, letter: letter{group, o}})
		}
	}
}

func (p *play) fire(l letter) {
	c := l.order.Cmd
	got := p.w.arrive(l).r
	p.did(fmt.Sprintf("launch: %d", got.Err))
	if got.Err != api.OK {
		return
	}
	what := api.Launch{Name: c.Name, Client: c.Client, Seq: c.Seq, Time: c.Time}
	p.launched[what]++
	table, want := jobs.Do(p.table, c)
	p.table = table
	if p.launched[what] > 1 || !sameResult(got, want) {
		p.t.Errorf("P20.3: %+v launched %d times, one table answers %+v", what, p.launched[what], want)
	}
}

// again is something of long ago that comes now.
func (p *play) again() {
	if len(p.old) == 0 {
		return
	}
	m := pick(p.r, p.old)
	switch {
	case m.what == anOrder && m.letter.order.Kind == api.OrdCmd && m.letter.order.Cmd.Kind == api.CmdLaunch:
		p.fire(m.letter)
	case m.what == anOrder && m.letter.order.Kind == api.OrdCmd:
		p.command(m.letter)
	default:
		p.comes(m)
	}
}

// step is one thing by chance.
func (p *play) step() {
	switch n := p.r.Intn(24); {
	case n < 6:
		p.send()
	case n < 13 && len(p.mail) > 0:
		i := len(p.mail) - 1 - p.r.Intn(min(len(p.mail), 2))
		m := p.mail[i]
		if p.r.Intn(5) > 0 { // else it is doubled
			p.mail = slices.Delete(p.mail, i, i+1)
		}
		if p.r.Intn(9) > 0 { // else it is lost
			p.comes(m)
		}
	case n == 13:
		p.again()
	case n == 14 && p.r.Intn(4) == 0:
		p.forget()
	case n == 15 && p.r.Intn(8) == 0:
		p.giveUp()
	case n < 18:
		p.begin()
	case n < 22:
		p.ask()
	default:
		p.launch()
	}
}

// looks holds P20.3, and of what no plan changes that it is what the one table is.
func (p *play) looks() {
	p.w.safe(p.t)
	if p.w.planned() {
		return
	}
	all := p.w.fits(p.t)
	hasOnly(p.t, all, p.table)
	for _, s := range all {
		for _, x := range s.Seen {
			if want, ok := p.told[fmt.Sprint(x.Client, " ", x.Seq)]; !ok || !sameResult(x.Result, want) {
				p.t.Errorf("P20.3: the session %+v of %s, it was answered %+v", x, toldShard(s), want)
			}
		}
		for client, seq := range p.served {
			name := p.asked[client].Name
			kept := func(x api.Seen) bool { return x.Client == client && x.Seq == seq }
			if p.asked[client].Seq == seq && shard.In(s, name) && !slices.ContainsFunc(s.Seen, kept) {
				p.t.Errorf("P20.3: the session %d %d is lost in %s", client, seq, toldShard(s))
			}
		}
	}
}

// finish sends and brings all till there is no plan.
func (p *play) finish() {
	p.mail = nil
	p.forget()
	for n := 0; p.w.planned(); n++ {
		if n == 30 {
			p.t.Fatalf("P20.3: the plan doesn't end: %s, has %s, %s", toldMap(p.w.a), toldShard(p.w.have), p.w.told())
		}
		p.send()
		for len(p.mail) > 0 {
			m := p.mail[0]
			p.mail = p.mail[1:]
			p.comes(m)
		}
	}
}

func TestScripts(t *testing.T) {
	deeds := map[string]int{}
	for seed := range int64(700) {
		p := newPlay(t, rand.New(rand.NewSource(seed)), deeds)
		for range 500 {
			p.step()
			p.looks()
			if t.Failed() {
				t.Fatalf("seed %d", seed)
			}
		}
		p.finish()
		p.looks()
		if t.Failed() {
			t.Fatalf("seed %d", seed)
		}
	}
	wide(t, deeds)
}

// wide looks whether the scripts have met what there is.
func wide(t *testing.T, deeds map[string]int) {
	t.Helper()
	for _, what := range []string{
		"begun 1", "begun 2", "begun 3", "given up", "settled 1 1", "settled 1 2", "settled 1 3", "settled 1 9", "settled 2 1", "settled 3 1",
		"order 2: 0", "order 2: 171", "order 3: 0", "order 4: 0", "order 4: 171", "order 5: 0", "order 6: 0", "order 6: 171", "order 7: 0", "order 7: 171", "order 8: 0", "order 8: 171",
		"command: 0", "command: 150", "command: 151", "command: 160", "command: 171", "command: 172", "command: 173", "launch: 0",
	} {
		if deeds[what] < 20 {
			t.Errorf("%q: met %d times, the scripts are too narrow", what, deeds[what])
		}
	}
}

// chanceMap is a map with a plan, mostly right.
func chanceMap(r *rand.Rand) api.Atlas {
	a := pick(r, stages).plan()
	n := pick(r, []int{0, 1, 2, 3, 4, 5, 7, 9, 10, 19, 20, 21, 22, -1, top - 2, top - 1, top, top + 1})
	s := &a.Spans[r.Intn(3)]
	all := []func(){
		func() {}, func() {}, func() { a.Groups = n }, func() { a.Last = n }, func() { s.Epoch = int64(n) }, func() { s.Group = n }, func() { s.Shard = n },
		func() { a.Plan.Kind = n }, func() { a.Plan.Phase = n }, func() { a.Plan.Shard = n }, func() { a.Plan.Other = n }, func() { a.Plan.Group = n }, func() { a.Plan.Past = n },
		func() { a.Plan.Epoch = int64(n) }, func() { s.Epoch, a.Plan.Epoch = int64(n), int64(n) }, func() { a.Plan = api.Plan{} }, func() { a.Plan.Key = pick(r, names) },
	}
	pick(r, all)()
	return a
}

// Whatever the map, what the mover has and what it hears: by the paper.
func TestByChance(t *testing.T) {
	rows, shards := map[int]int{}, all()
	for seed := range int64(12000) {
		r := rand.New(rand.NewSource(seed))
		a, have := chanceMap(r), pick(r, shards)
		if r.Intn(2) == 0 {
			have = shardOf(a.Plan.Shard, a.Plan.Epoch, pick(r, append(states, api.Gone, api.Gone, api.Gone, api.Gone, api.Gone)))
		}
		rows[paperRowOf(a, have)]++
		next(t, a, have)
		for range 4 {
			heard(t, a, have, resultOf(pick(r, errnos)), pick(r, shards))
		}
		heard(t, a, have, resultOf(pick(r, []api.Errno{0, 0, 1, 3, 4, 171})), pick(r, shards))
		if t.Failed() {
			t.Fatalf("seed %d", seed)
		}
	}
	for row := range 11 {
		if rows[row] < 50 {
			t.Errorf("the row %d of the table: met %d times, the chance is too narrow", row, rows[row])
		}
	}
}

// Many may ask of the same things at one time: no call writes to them.
func TestAtOneTime(t *testing.T) {
	var was, loans []loan
	for i, s := range stages {
		for _, have := range []api.Shard{{}, shardOf(2, 20, api.Frozen), shardOf(2, 20, api.Gone)} {
			l := loan{s.plan(), have, shardOf(2, 20, api.Frozen), resultOf([]api.Errno{api.OK, api.ErrEpoch, api.ErrFull}[i%3])}
			was, loans = append(was, l), append(loans, l.lent())
		}
	}
	calls := func() []answer {
		var all []answer
		for range 20 {
			for _, l := range loans {
				all = append(all, ofNext(mover.Next(l.a, l.have)), ofHeard(mover.Heard(l.a, l.have, l.r, l.s)))
			}
		}
		return all
	}
	got := make([][]answer, 32)
	var wait sync.WaitGroup
	for i := range got {
		wait.Go(func() { got[i] = calls() })
	}
	wait.Wait()
	want := calls()
	for i := range got {
		if !slices.EqualFunc(got[i], want, answer.same) {
			t.Errorf("rule 6: worker %d is answered otherwise at one time", i)
		}
	}
	for i, l := range loans {
		if !l.stays(was[i]) {
			t.Errorf("rule 5: what was lent is changed: %s", l.told())
		}
	}
}
