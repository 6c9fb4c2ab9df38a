package raft_test

import (
	"math/rand"
	"slices"
	"strconv"
	"testing"

	"matins/api"
	"matins/raft"
)

// someTerms is some terms, none below low, falling or above high.
func someTerms(c *rand.Rand, low, high int64, count int) []int64 {
	var terms []int64
	for range count {
		low = max(1, low) + int64(c.Intn(3)/2)
		if low > high {
			break
		}
		terms = append(terms, low)
	}
	return terms
}

// someNode is a right node by chance, of small numbers or of such below 2^40.
func someNode(c *rand.Rand) api.Raft {
	confs := [][]int{{1}, {1, 2}, {1, 2, 3}, {2, 5, 9}, {1, 2, 3, 4}, {1, 2, 3, 4, 5}, {1, 2, 3, 4, 5, 6, 7}}
	conf := confs[c.Intn(len(confs))]
	r := api.Raft{Id: conf[c.Intn(len(conf))], Conf: conf, Term: int64(c.Intn(6)), Left: c.Intn(3), Wait: 10 + c.Intn(10), Snap: "s" + strconv.Itoa(c.Intn(3))}
	if c.Intn(10) == 0 {
		r.Term = top - int64(c.Intn(3))
	}
	base := int64(c.Intn(4))
	if c.Intn(10) == 0 {
		base = top - int64(c.Intn(5))
	}
	baseTerm := int64(0)
	if base > 0 {
		baseTerm = max(0, r.Term-int64(c.Intn(4)))
	}
	r.Trail = log(base, baseTerm, someTerms(c, baseTerm, r.Term, min(c.Intn(13), int(top-base)))...)
	r.Commit = base + int64(c.Intn(len(r.Trail.Entries)+1))
	nodes := append([]int{0}, conf...)
	r.Vote, r.Leader = nodes[c.Intn(len(nodes))], nodes[c.Intn(len(nodes))]
	if c.Intn(4) == 0 {
		r.Left = c.Intn(101)
	}
	someRole(c, &r)
	return r
}

func someRole(c *rand.Rand, r *api.Raft) {
	switch r.Role = c.Intn(3); r.Role {
	case api.Candidate:
		if len(r.Conf) == 1 {
			r.Role = api.Follower
			return
		}
		r.Vote, r.Votes = r.Id, []int{r.Id}
		for _, i := range c.Perm(len(r.Conf)) {
			if node := r.Conf[i]; node != r.Id && 2*(len(r.Votes)+1) <= len(r.Conf) && c.Intn(2) == 0 {
				r.Votes = append(r.Votes, node)
			}
		}
	case api.Leader:
		r.Vote, r.Leader = r.Id, r.Id
		last := r.Trail.Base + int64(len(r.Trail.Entries))
		for range r.Conf {
			match := c.Int63n(last + 1)
			if c.Intn(2) == 0 {
				match = max(0, last-int64(c.Intn(6)))
			}
			r.Match = append(r.Match, match)
			r.Next = append(r.Next, match+1+c.Int63n(last+1-match))
		}
	}
}

// someMessage is a message by chance to a node, mostly one that it takes and that meets its log.
func someMessage(c *rand.Rand, r api.Raft) api.Message {
	last := r.Trail.Base + int64(len(r.Trail.Entries))
	m := api.Message{Kind: 1 + c.Intn(5), From: r.Conf[c.Intn(len(r.Conf))], To: r.Id, Yes: c.Intn(2) == 0, Data: "m" + strconv.Itoa(c.Intn(3))}
	m.Term = min(top, max(1, r.Term+int64(c.Intn(7)/4-c.Intn(5)/4)))
	m.Index = min(top, max(0, last+2-int64(c.Intn(len(r.Trail.Entries)+5))))
	m.LogTerm = int64(c.Intn(int(min(m.Term, 6)) + 1))
	if term, ok := termAt(r.Trail, m.Index); ok && c.Intn(4) > 0 {
		m.LogTerm = min(term, m.Term)
	}
	m.Commit = min(top, max(0, last+3-int64(c.Intn(len(r.Trail.Entries)+6))))
	for i, term := range someTerms(c, m.LogTerm, m.Term, c.Intn(9)) {
		if have, ok := termAt(r.Trail, m.Index+1+int64(i)); ok && c.Intn(5) > 0 {
			term = min(m.Term, max(term, have))
		}
		if i > 0 {
			term = max(term, m.Entries[i-1].Term)
		}
		m.Entries = append(m.Entries, api.Entry{Term: term, Data: "c" + strconv.Itoa(c.Intn(9))})
	}
	if c.Intn(20) == 0 {
		spoilMessage(c, &m)
	}
	return m
}

func spoilMessage(c *rand.Rand, m *api.Message) {
	n := ends[c.Intn(len(ends))]
	switch c.Intn(8) {
	case 0:
		m.Kind = int(n)
	case 1:
		m.From = int(n)
	case 2:
		m.To = int(n)
	case 3:
		m.Term = n
	case 4:
		m.Index = n
	case 5:
		m.LogTerm = n
	case 6:
		m.Commit = n
	case 7:
		m.Entries = append(m.Entries, api.Entry{Term: n})
	}
}

func spoilNode(c *rand.Rand, r api.Raft) api.Raft {
	n := ends[c.Intn(len(ends))]
	if c.Intn(2) == 0 {
		n = int64(c.Intn(9))
	}
	place := func(l []int64) {
		if len(l) > 0 {
			l[c.Intn(len(l))] = n
		}
	}
	return with(r, func(r *api.Raft) {
		switch c.Intn(14) {
		case 0:
			r.Id = int(n)
		case 1:
			r.Conf[c.Intn(len(r.Conf))] = int(n)
		case 2:
			r.Term = n
		case 3:
			r.Vote = int(n)
		case 4:
			r.Role = int(n)
		case 5:
			r.Leader = int(n)
		case 6:
			r.Trail.Base = n
		case 7:
			r.Trail.BaseTerm = n
		case 8:
			r.Commit = n
		case 9:
			r.Left = int(n)
		case 10:
			r.Wait = int(n)
		case 11:
			r.Votes = append(r.Votes, int(n))
		case 12:
			place(r.Next)
		case 13:
			place(r.Match)
		}
	})
}

func TestCheckByChance(t *testing.T) {
	c := rand.New(rand.NewSource(1))
	right, wrong := 0, 0
	for range 100000 {
		r := someNode(c)
		wantCheck(t, "a node by chance", r, true)
		r = spoilNode(c, r)
		wantCheck(t, "a spoilt node by chance", r, paperCheck(r))
		if paperCheck(r) {
			right++
		} else {
			wrong++
		}
		if t.Failed() {
			return
		}
	}
	if right < 20000 || wrong < 20000 {
		t.Errorf("%d of the spoilt nodes are right, %d aren't", right, wrong)
	}
}

// Nodes by chance, each with each call: the wrappers hold the answers against the paper's.
func TestCallsByChance(t *testing.T) {
	c := rand.New(rand.NewSource(2))
	sent := map[int]int{} // by Kind
	for range 60000 {
		r := someNode(c)
		var l []api.Message
		switch c.Intn(8) {
		case 0:
			_, l = tick(t, with(r, func(r *api.Raft) { r.Left = c.Intn(2) }), c.Int()-c.Int())
		case 1:
			_, l, _, _ = propose(t, r, text(c.Intn(3)))
		case 2:
			compact(t, r, r.Commit+1-int64(c.Intn(9)), "t")
		case 3:
			restart(t, r)
			handle(t, spoilNode(c, r), someMessage(c, r))
		default:
			_, l = handle(t, r, someMessage(c, r))
		}
		for _, m := range l {
			sent[m.Kind]++
		}
		if t.Failed() {
			return
		}
	}
	for kind := api.Ask; kind <= api.Bundle; kind++ {
		if sent[kind] < 1000 {
			t.Errorf("of the kind %d only %d were sent", kind, sent[kind])
		}
	}
}

// One node by chance through a script of ticks, messages, proposals and compactions.
func TestScriptsOfOneNode(t *testing.T) {
	c := rand.New(rand.NewSource(3))
	for range 800 {
		r := someNode(c)
		for range 100 {
			switch c.Intn(10) {
			case 0, 1, 2:
				r, _ = tick(t, r, c.Intn(40)-20)
			case 3, 4:
				r, _, _, _ = propose(t, r, "p"+strconv.Itoa(c.Intn(9)))
			case 5:
				r, _ = compact(t, r, r.Trail.Base+int64(c.Intn(3)), "t"+strconv.Itoa(c.Intn(9)))
			default:
				r, _ = handle(t, r, someMessage(c, r))
			}
			if t.Failed() {
				return
			}
		}
	}
}

// group is some nodes, what is on the way between them, and what was seen of them.
type group struct {
	t       *testing.T
	c       *rand.Rand
	nodes   []api.Raft
	flight  []api.Message
	leaders map[int64]int       // by term
	agreed  map[int64]api.Entry // by number
	upTo    []int64             // by place: what was noted of a node
	top     int64
	cut     int // the node that is cut off
	counts  map[string]int
}

func newGroup(t *testing.T, c *rand.Rand, size int) *group {
	g := &group{t: t, c: c, leaders: map[int64]int{}, agreed: map[int64]api.Entry{}, upTo: make([]int64, size), counts: map[string]int{}}
	var conf []int
	for i := range size {
		conf = append(conf, 3*i+2)
	}
	for _, id := range conf {
		r, err := raft.New(id, conf)
		if err != api.OK {
			t.Fatalf("P14.1: New(%d, %v): %d", id, conf, err)
		}
		g.nodes = append(g.nodes, r)
	}
	return g
}

// note looks at a node behind a call: no term has two leaders, and all agree on the same entries, of which a Snap tells the number.
func (g *group) note(i int, r api.Raft, sent []api.Message) {
	g.nodes[i] = r
	g.flight = append(g.flight, sent...)
	if r.Role == api.Leader {
		if id, ok := g.leaders[r.Term]; ok && id != r.Id {
			g.t.Errorf("P14.4: %d and %d lead in the term %d", id, r.Id, r.Term)
		}
		g.leaders[r.Term] = r.Id
	}
	if r.Trail.Base > 0 && r.Snap != strconv.FormatInt(r.Trail.Base, 10) {
		g.t.Errorf("P14.2: the Snap of the base %d is %q", r.Trail.Base, r.Snap)
	}
	for n := max(g.upTo[i], r.Trail.Base) + 1; n <= r.Commit; n++ {
		e := r.Trail.Entries[n-r.Trail.Base-1]
		if have, ok := g.agreed[n]; ok && have != e {
			g.t.Errorf("P14.4: %d agrees on %v at %d, another one on %v", r.Id, e, n, have)
		}
		g.agreed[n] = e
	}
	g.upTo[i] = max(g.upTo[i], r.Commit)
	g.top = max(g.top, r.Commit)
}

func (g *group) tick(i int) {
	r, sent := tick(g.t, g.nodes[i], g.c.Intn(100)-50)
	g.note(i, r, sent)
}

// take takes a message out of those on the way.
func (g *group) take(i int) api.Message {
	m := g.flight[i]
	g.flight = slices.Delete(g.flight, i, i+1)
	return m
}

func (g *group) deliver(m api.Message) {
	i := slices.IndexFunc(g.nodes, func(r api.Raft) bool { return r.Id == m.To })
	before := g.nodes[i].Trail.Base
	r, sent := handle(g.t, g.nodes[i], m)
	if m.Kind == api.Bundle && r.Trail.Base > before {
		g.counts["bundles"]++
	}
	g.note(i, r, sent)
}

func (g *group) propose(i int) {
	r, sent, n, err := propose(g.t, g.nodes[i], "p"+strconv.Itoa(g.c.Int()))
	if err == api.OK {
		g.counts["proposals"]++
		if n != r.Trail.Base+int64(len(r.Trail.Entries)) {
			g.t.Errorf("P14.3: Propose answers %d: %s", n, told(r))
		}
	}
	g.note(i, r, sent)
}

func (g *group) compact(i int) {
	r := g.nodes[i]
	to := r.Trail.Base + g.c.Int63n(r.Commit-r.Trail.Base+1)
	r, err := compact(g.t, r, to, strconv.FormatInt(to, 10))
	if err != api.OK {
		g.t.Errorf("P14.3: Compact: error %d", err)
	}
	g.note(i, r, nil)
}

// some delivers, loses or doubles one of those on the way; what goes to or comes from the node that is cut off is lost.
func (g *group) some() {
	if len(g.flight) == 0 {
		return
	}
	i := g.c.Intn(len(g.flight))
	if g.c.Intn(3) > 0 { // mostly the oldest ones, so that the nodes get on
		i = 0
	}
	if g.c.Intn(25) == 0 {
		g.flight = append(g.flight, g.flight[i])
	}
	m := g.take(i)
	if m.From != g.cut && m.To != g.cut && g.c.Intn(25) > 0 {
		g.deliver(m)
	}
}

func (g *group) step() {
	i := g.c.Intn(len(g.nodes))
	switch act := g.c.Intn(400); {
	case act < 80:
		g.tick(i)
	case act < 340:
		g.some()
	case act < 384:
		g.propose(i)
	case act < 394:
		g.compact(i)
	case act < 396:
		g.note(i, restart(g.t, g.nodes[i]), nil)
		g.counts["restarts"]++
	case act < 398:
		g.cut = g.nodes[i].Id
	default:
		g.cut = 0
	}
}

// Groups through scripts by chance, with what is lost, doubled, late, and with nodes that are started again.
func TestScriptsOfGroups(t *testing.T) {
	c := rand.New(rand.NewSource(4))
	for _, size := range []int{1, 2, 3, 4, 5, 7} {
		terms, agreed, counts := 0, int64(0), map[string]int{}
		for range 12 {
			g := newGroup(t, c, size)
			for range 2500 {
				g.step()
				if t.Failed() {
					return
				}
			}
			terms, agreed = terms+len(g.leaders), agreed+g.top
			for what, n := range g.counts {
				counts[what] += n
			}
		}
		if terms < 12 || agreed < 100 || counts["proposals"] < 100 || counts["restarts"] < 100 || size > 2 && counts["bundles"] < 10 {
			t.Errorf("of %d nodes: %d terms, %d agreed on, %v", size, terms, agreed, counts)
		}
	}
}

// round is a tick of each node, and then the delivery of all that is on the way.
func (g *group) round() {
	for i := range g.nodes {
		r, sent := tick(g.t, g.nodes[i], 3*g.nodes[i].Id)
		g.note(i, r, sent)
	}
	for n := 0; n < 400 && len(g.flight) > 0; n++ {
		g.deliver(g.take(0))
	}
}

// Behind a script, with all that is sent delivered, there is a leader soon, and what it is proposed all agree on.
func TestCalm(t *testing.T) {
	c := rand.New(rand.NewSource(5))
	for _, size := range []int{1, 2, 3, 4, 5} {
		for range 6 {
			g := newGroup(t, c, size)
			for range 600 {
				g.step()
			}
			g.flight, g.cut = nil, 0
			lead := -1
			for range 600 {
				g.round()
				lead = slices.IndexFunc(g.nodes, func(r api.Raft) bool { return r.Role == api.Leader && r.Term == g.highest() })
				if lead >= 0 {
					break
				}
			}
			if lead < 0 {
				t.Fatalf("P14.2: of %d nodes none leads", size)
			}
			g.propose(lead)
			last := g.nodes[lead].Trail.Base + int64(len(g.nodes[lead].Trail.Entries))
			for range 6 {
				g.round()
			}
			for _, r := range g.nodes {
				if r.Commit < last {
					t.Errorf("P14.2: of %d nodes one agrees up to %d, not to %d: %s", size, r.Commit, last, told(r))
				}
			}
			if t.Failed() {
				return
			}
		}
	}
}

func (g *group) highest() int64 {
	term := int64(0)
	for _, r := range g.nodes {
		term = max(term, r.Term)
	}
	return term
}

// A log that is behind by more than a push holds catches up, push by push, and over a base by a Bundle.
func TestCatchesUp(t *testing.T) {
	for _, cut := range []bool{false, true} {
		g := newGroup(t, rand.New(rand.NewSource(6)), 3)
		for g.nodes[0].Role != api.Leader {
			r, sent := tick(t, g.nodes[0], 0)
			g.note(0, r, sent)
			for len(g.flight) > 0 {
				if m := g.take(0); m.From != 8 && m.To != 8 { // the third one hears nothing
					g.deliver(m)
				}
			}
		}
		for range 50 {
			g.propose(0)
			for len(g.flight) > 0 {
				if m := g.take(0); m.From != 8 && m.To != 8 {
					g.deliver(m)
				}
			}
		}
		if cut {
			r, _ := compact(t, g.nodes[0], 30, "30")
			g.note(0, r, nil)
		}
		for range 2 {
			g.tick(0)
		}
		for n := 0; n < 100 && len(g.flight) > 0; n++ {
			g.deliver(g.take(0))
		}
		behind := g.nodes[2]
		last := behind.Trail.Base + int64(len(behind.Trail.Entries))
		if last != 51 || cut != (behind.Trail.Base == 30) || g.nodes[0].Match[2] != 51 || g.nodes[0].Next[2] != 52 {
			t.Errorf("P14.2: it doesn't catch up: %s", told(behind))
		}
	}
}
