package raft_test

import (
	"slices"

	"matins/api"
	"matins/quorum"
	"matins/trail"
)

const top = 1 << 40

// The paper calls read the chapter plainly, sentence by sentence. They may share memory with what they are handed.

func paperCheck(r api.Raft) bool {
	if !quorum.Check(r.Conf) || !slices.Contains(r.Conf, r.Id) || !trail.Check(r.Trail) {
		return false
	}
	last, lastTerm := trail.Last(r.Trail)
	switch {
	case r.Term < 0, r.Term > top:
		return false
	case r.Vote != 0 && !slices.Contains(r.Conf, r.Vote):
		return false
	case r.Leader != 0 && !slices.Contains(r.Conf, r.Leader):
		return false
	case r.Role != 0 && r.Role != 1 && r.Role != 2:
		return false
	case lastTerm > r.Term:
		return false
	case len(r.Snap) > 60000:
		return false
	case r.Commit < r.Trail.Base, r.Commit > last:
		return false
	case r.Left < 0, r.Left > 100:
		return false
	case r.Wait < 10, r.Wait > 19:
		return false
	}
	return paperVotes(r) && paperPlaces(r, last)
}

func paperVotes(r api.Raft) bool {
	if r.Role != api.Candidate {
		return len(r.Votes) == 0
	}
	if r.Vote != r.Id || len(r.Votes) == 0 || r.Votes[0] != r.Id {
		return false
	}
	times := map[int]int{}
	for _, node := range r.Votes {
		times[node]++
		if times[node] > 1 || !slices.Contains(r.Conf, node) {
			return false
		}
	}
	return 2*len(r.Votes) <= len(r.Conf)
}

func paperPlaces(r api.Raft, last int64) bool {
	if r.Role != api.Leader {
		return len(r.Next) == 0 && len(r.Match) == 0
	}
	if r.Vote != r.Id || r.Leader != r.Id || len(r.Next) != len(r.Conf) || len(r.Match) != len(r.Conf) {
		return false
	}
	for i := range r.Conf {
		if r.Match[i] < 0 || r.Match[i] > last || r.Next[i] <= r.Match[i] || r.Next[i] > last+1 {
			return false
		}
	}
	return true
}

func paperTakes(r api.Raft, m api.Message) bool {
	switch {
	case m.Kind != api.Ask && m.Kind != api.Grant && m.Kind != api.Push && m.Kind != api.Ack && m.Kind != api.Bundle:
		return false
	case m.To != r.Id, m.From == r.Id, !slices.Contains(r.Conf, m.From):
		return false
	case m.Term < 1, m.Term > top, m.Index < 0, m.Index > top, m.LogTerm < 0, m.LogTerm > m.Term, m.Commit < 0, m.Commit > top:
		return false
	case len(m.Entries) > 8, len(m.Data) > 60000:
		return false
	}
	ahead := m.LogTerm
	for _, e := range m.Entries {
		if e.Term < 1 || e.Term < ahead || e.Term > m.Term || len(e.Data) > 4096 {
			return false
		}
		ahead = e.Term
	}
	return true
}

type paper struct {
	r   api.Raft
	out []api.Message
}

func (p *paper) last() int64 { return p.r.Trail.Base + int64(len(p.r.Trail.Entries)) }

func (p *paper) others() []int {
	return slices.DeleteFunc(slices.Clone(p.r.Conf), func(node int) bool { return node == p.r.Id })
}

func (p *paper) push(node int) {
	m := api.Message{From: p.r.Id, To: node, Term: p.r.Term}
	n := p.r.Next[slices.Index(p.r.Conf, node)]
	if n <= p.r.Trail.Base {
		m.Kind, m.Index, m.LogTerm, m.Data = api.Bundle, p.r.Trail.Base, p.r.Trail.BaseTerm, p.r.Snap
	} else {
		m.Kind, m.Index, m.Commit = api.Push, n-1, p.r.Commit
		m.LogTerm, _ = trail.Term(p.r.Trail, n-1)
		for at := n; at <= p.last() && at < n+8; at++ {
			m.Entries = append(m.Entries, p.r.Trail.Entries[at-p.r.Trail.Base-1])
		}
	}
	p.out = append(p.out, m)
}

func (p *paper) pushAll() {
	for _, node := range p.others() {
		p.push(node)
	}
}

func (p *paper) agree() {
	for n := p.last(); n > p.r.Commit; n-- { // the greatest one that more than half have reached
		have := 0
		for _, match := range p.r.Match {
			if match >= n {
				have++
			}
		}
		if 2*have > len(p.r.Conf) {
			if term, _ := trail.Term(p.r.Trail, n); term == p.r.Term {
				p.r.Commit = n
			}
			return
		}
	}
}

func (p *paper) behindLog(data string) bool {
	if len(p.r.Trail.Entries) >= 4096 || p.last() >= top || p.r.Term == 0 { // an entry of the term 0 there can't be
		return false
	}
	p.r.Trail.Entries = append(slices.Clone(p.r.Trail.Entries), api.Entry{Term: p.r.Term, Data: data})
	return true
}

func (p *paper) ownPlace() {
	i := slices.Index(p.r.Conf, p.r.Id)
	p.r.Next, p.r.Match = slices.Clone(p.r.Next), slices.Clone(p.r.Match)
	p.r.Next[i], p.r.Match[i] = p.last()+1, p.last()
}

func (p *paper) lead() {
	p.r.Role = api.Leader
	p.r.Leader = p.r.Id
	p.r.Left = 2
	p.r.Votes = nil
	p.r.Next = slices.Repeat([]int64{p.last() + 1}, len(p.r.Conf))
	p.r.Match = slices.Repeat([]int64{0}, len(p.r.Conf))
	p.behindLog("")
	p.ownPlace()
	p.agree()
	p.pushAll()
}

func (p *paper) stand(draw int) {
	if p.r.Term == top {
		return
	}
	p.r.Term++
	p.r.Vote = p.r.Id
	p.r.Role = api.Candidate
	p.r.Leader = 0
	p.r.Votes = []int{p.r.Id}
	p.r.Next, p.r.Match = nil, nil
	rest := draw % 10
	if draw < 0 {
		rest = (-(draw + 1)) % 10
	}
	p.r.Wait = 10 + rest
	p.r.Left = p.r.Wait
	if len(p.r.Conf) == 1 {
		p.lead()
		return
	}
	last, lastTerm := trail.Last(p.r.Trail)
	for _, node := range p.others() {
		p.out = append(p.out, api.Message{Kind: api.Ask, From: p.r.Id, To: node, Term: p.r.Term, Index: last, LogTerm: lastTerm})
	}
}

func paperTick(r api.Raft, draw int) (api.Raft, []api.Message) {
	p := paper{r: r}
	if !paperCheck(r) {
		return r, nil
	}
	if p.r.Left > 0 {
		p.r.Left--
	}
	if p.r.Left == 0 {
		if p.r.Role == api.Leader {
			p.r.Left = 2
			p.pushAll()
		} else {
			p.stand(draw)
		}
	}
	return p.r, p.out
}

func (p *paper) reply(m api.Message, kind int, yes bool, index int64) {
	p.out = append(p.out, api.Message{Kind: kind, From: p.r.Id, To: m.From, Term: p.r.Term, Yes: yes, Index: index})
}

func paperHandle(r api.Raft, m api.Message) (api.Raft, []api.Message) {
	if !paperCheck(r) || !paperTakes(r, m) {
		return r, nil
	}
	p := paper{r: r}
	if m.Term > p.r.Term {
		p.r.Term, p.r.Vote, p.r.Role, p.r.Leader = m.Term, 0, api.Follower, 0
		p.r.Votes, p.r.Next, p.r.Match = nil, nil, nil
	}
	if m.Term < p.r.Term {
		if m.Kind == api.Ask {
			p.reply(m, api.Grant, false, 0)
		}
		if m.Kind == api.Push || m.Kind == api.Bundle {
			p.reply(m, api.Ack, false, 0)
		}
		return p.r, p.out
	}
	switch m.Kind {
	case api.Ask:
		p.ask(m)
	case api.Grant:
		p.grant(m)
	case api.Push:
		p.pushed(m)
	case api.Ack:
		p.ack(m)
	case api.Bundle:
		p.bundle(m)
	}
	return p.r, p.out
}

func (p *paper) ask(m api.Message) {
	yes := false
	if p.r.Vote == 0 || p.r.Vote == m.From {
		if p.r.Role == api.Follower {
			yes = trail.Newer(p.r.Trail, m.Index, m.LogTerm)
		}
	}
	if yes {
		p.r.Vote = m.From
		p.r.Left = p.r.Wait
	}
	p.reply(m, api.Grant, yes, 0)
}

func (p *paper) grant(m api.Message) {
	if p.r.Role == api.Candidate && m.Yes && !slices.Contains(p.r.Votes, m.From) {
		p.r.Votes = append(slices.Clone(p.r.Votes), m.From)
		if 2*len(p.r.Votes) > len(p.r.Conf) {
			p.lead()
		}
	}
}

func (p *paper) hear(m api.Message) {
	p.r.Role = api.Follower
	p.r.Votes = nil
	p.r.Leader = m.From
	p.r.Left = p.r.Wait
}

func (p *paper) pushed(m api.Message) {
	if p.r.Role == api.Leader {
		return
	}
	p.hear(m)
	put, ok := trail.Put(p.r.Trail, m.Index, m.LogTerm, m.Entries, p.r.Commit)
	upTo := m.Index + int64(len(m.Entries))
	if !ok {
		index := m.Index - 1
		if index < 0 {
			index = 0
		}
		if p.last() < index {
			index = p.last()
		}
		p.reply(m, api.Ack, false, index)
		return
	}
	p.r.Trail = put
	lesser := m.Commit
	if upTo < lesser {
		lesser = upTo
	}
	if lesser > p.r.Commit && lesser <= p.last() {
		p.r.Commit = lesser
	}
	if upTo < p.r.Trail.Base {
		upTo = p.r.Trail.Base
	}
	p.reply(m, api.Ack, true, upTo)
}

func (p *paper) bundle(m api.Message) {
	if p.r.Role == api.Leader {
		return
	}
	p.hear(m)
	if m.Index <= p.r.Commit {
		p.reply(m, api.Ack, true, p.r.Commit)
		return
	}
	p.r.Snap = m.Data
	if term, ok := trail.Term(p.r.Trail, m.Index); ok && term == m.LogTerm {
		p.r.Trail, _ = trail.Cut(p.r.Trail, m.Index)
	} else {
		p.r.Trail = api.Trail{Base: m.Index, BaseTerm: m.LogTerm}
	}
	p.r.Commit = m.Index
	p.reply(m, api.Ack, true, m.Index)
}

func (p *paper) ack(m api.Message) {
	if p.r.Role != api.Leader || m.Index > p.last() {
		return
	}
	i := slices.Index(p.r.Conf, m.From)
	p.r.Next, p.r.Match = slices.Clone(p.r.Next), slices.Clone(p.r.Match)
	if m.Yes {
		if m.Index > p.r.Match[i] {
			p.r.Match[i] = m.Index
		}
		p.r.Next[i] = p.r.Match[i] + 1
		p.agree()
		if p.r.Next[i] <= p.last() {
			p.push(m.From)
		}
		return
	}
	next := p.r.Next[i] - 1
	if m.Index+1 < next {
		next = m.Index + 1
	}
	if next < p.r.Match[i]+1 {
		next = p.r.Match[i] + 1
	}
	p.r.Next[i] = next
	p.push(m.From)
}

func paperPropose(r api.Raft, data string) (api.Raft, []api.Message, int64, api.Errno) {
	if !paperCheck(r) || r.Role != api.Leader {
		return r, nil, 0, api.ErrState
	}
	if data == "" || len(data) > 4096 {
		return r, nil, 0, api.ErrArg
	}
	p := paper{r: r}
	if !p.behindLog(data) {
		return r, nil, 0, api.ErrFull
	}
	p.ownPlace()
	p.agree()
	p.pushAll()
	return p.r, p.out, p.last(), api.OK
}

func paperCompact(r api.Raft, to int64, snap string) (api.Raft, api.Errno) {
	if !paperCheck(r) {
		return r, api.ErrState
	}
	if to < r.Trail.Base || to > r.Commit || len(snap) > 60000 {
		return r, api.ErrArg
	}
	out := r
	out.Trail.Base = to
	out.Trail.BaseTerm, _ = trail.Term(r.Trail, to)
	out.Trail.Entries = r.Trail.Entries[to-r.Trail.Base:]
	out.Snap = snap
	return out, api.OK
}

func paperRestart(r api.Raft) api.Raft {
	r.Commit = r.Trail.Base
	r.Left, r.Wait = 10, 10
	r.Role, r.Leader, r.Votes, r.Next, r.Match = 0, 0, nil, nil, nil
	return r
}
