package raft

import (
	"slices"

	"matins/api"
	"matins/quorum"
	"matins/trail"
)

// work is a right node at work, with the messages that it has sent.
type work struct {
	api.Raft
	sent []api.Message
}

// begin is a node at work in new memory, so that the one that was handed in stays as it is.
func begin(r api.Raft) *work { return &work{Raft: copied(r)} }

func (w *work) tick(draw int) {
	if w.Left > 0 {
		w.Left--
	}
	switch {
	case w.Left > 0:
	case w.Role == api.Leader:
		w.Left = api.Beat
		w.pushAll()
	default:
		w.stand(draw)
	}
}

// stand asks for votes in a new term.
func (w *work) stand(draw int) {
	if w.Term == top {
		return
	}
	w.enter(w.Term + 1)
	w.Role, w.Vote, w.Votes = api.Candidate, w.Id, []int{w.Id}
	if draw < 0 {
		draw = -(draw + 1) // so that the least number has its like too
	}
	w.Wait = api.MinWait + draw%api.Spread
	w.Left = w.Wait
	if quorum.Wins(w.Conf, w.Votes) {
		w.lead()
		return
	}
	last, term := trail.Last(w.Trail)
	for _, node := range w.Conf {
		if node != w.Id {
			w.send(node, api.Message{Kind: api.Ask, Index: last, LogTerm: term})
		}
	}
}

// enter begins a term that is above the node's, as a follower.
func (w *work) enter(term int64) {
	w.Term, w.Vote, w.Leader = term, 0, 0
	w.Role, w.Votes, w.Next, w.Match = api.Follower, nil, nil, nil
}

// lead is what a candidate does that has won.
func (w *work) lead() {
	w.Role, w.Leader, w.Left, w.Votes = api.Leader, w.Id, api.Beat, nil
	w.Next, w.Match = make([]int64, len(w.Conf)), make([]int64, len(w.Conf))
	for i := range w.Next {
		w.Next[i] = w.last() + 1 // ahead of the entry that follows: all are sent it
	}
	w.grow("") // a full log stays as it is: it leads nonetheless
	w.keepUp()
	w.agree()
	w.pushAll()
}

// grow puts an entry of the own term behind the log, or answers false, if the log can't take it.
func (w *work) grow(data string) bool {
	t, ok := trail.Append(w.Trail, api.Entry{Term: w.Term, Data: data})
	if ok {
		w.Trail = t
	}
	return ok
}

// keepUp lets a leader's own Next and Match follow its log.
func (w *work) keepUp() {
	i := w.place(w.Id)
	w.Next[i], w.Match[i] = w.last()+1, w.last()
}

// agree lets Commit rise to what more than half of the nodes have, if that is an entry of the own term.
func (w *work) agree() {
	var match []api.Item
	for i, node := range w.Conf {
		match = append(match, api.Item{Id: node, At: w.Match[i]})
	}
	reached := quorum.Reached(w.Conf, match)
	if term, _ := trail.Term(w.Trail, reached); reached > w.Commit && term == w.Term {
		w.Commit = reached
	}
}

func (w *work) pushAll() {
	for i, node := range w.Conf {
		if node != w.Id {
			w.push(i)
		}
	}
}

// push sends the node at a place of Conf what it is to be sent next.
func (w *work) push(i int) {
	next := w.Next[i]
	if next <= w.Trail.Base {
		w.send(w.Conf[i], api.Message{Kind: api.Bundle, Index: w.Trail.Base, LogTerm: w.Trail.BaseTerm, Data: w.Snap})
		return
	}
	term, _ := trail.Term(w.Trail, next-1)
	entries := trail.Slice(w.Trail, next, api.MaxPush)
	w.send(w.Conf[i], api.Message{Kind: api.Push, Index: next - 1, LogTerm: term, Entries: entries, Commit: w.Commit})
}

func (w *work) send(to int, m api.Message) {
	m.From, m.To, m.Term = w.Id, to, w.Term
	w.sent = append(w.sent, m)
}

func (w *work) ack(to int, yes bool, index int64) {
	w.send(to, api.Message{Kind: api.Ack, Yes: yes, Index: index})
}

// place is where a node of Conf stands in it.
func (w *work) place(node int) int { return slices.Index(w.Conf, node) }

// last is the last number of the log.
func (w *work) last() int64 {
	n, _ := trail.Last(w.Trail)
	return n
}
