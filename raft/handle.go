package raft

import (
	"slices"

	"matins/api"
	"matins/quorum"
	"matins/trail"
)

// handle is what a node does with a message that it takes.
func (w *work) handle(m api.Message) {
	if m.Term > w.Term {
		w.enter(m.Term)
	}
	if m.Term < w.Term {
		w.refuse(m)
		return
	}
	switch m.Kind {
	case api.Ask:
		w.asked(m)
	case api.Grant:
		w.granted(m)
	case api.Push:
		w.pushed(m)
	case api.Bundle:
		w.bundled(m)
	case api.Ack:
		w.acked(m)
	}
}

// refuse tells the sender of an older term the node's own.
func (w *work) refuse(m api.Message) {
	switch m.Kind {
	case api.Ask:
		w.send(m.From, api.Message{Kind: api.Grant})
	case api.Push, api.Bundle:
		w.ack(m.From, false, 0)
	}
}

func (w *work) asked(m api.Message) {
	free := w.Vote == 0 || w.Vote == m.From
	yes := free && w.Role == api.Follower && trail.Newer(w.Trail, m.Index, m.LogTerm)
	if yes {
		w.Vote, w.Left = m.From, w.Wait
	}
	w.send(m.From, api.Message{Kind: api.Grant, Yes: yes})
}

func (w *work) granted(m api.Message) {
	if w.Role != api.Candidate || !m.Yes || slices.Contains(w.Votes, m.From) {
		return
	}
	w.Votes = append(w.Votes, m.From)
	if quorum.Wins(w.Conf, w.Votes) {
		w.lead()
	}
}

// obey is what one that isn't leader does when the leader of its term is heard.
func (w *work) obey(leader int) {
	w.Role, w.Votes, w.Leader, w.Left = api.Follower, nil, leader, w.Wait
}

func (w *work) pushed(m api.Message) {
	if w.Role == api.Leader {
		return
	}
	w.obey(m.From)
	t, ok := trail.Put(w.Trail, m.Index, m.LogTerm, m.Entries, w.Commit)
	if !ok {
		w.ack(m.From, false, min(w.last(), max(m.Index-1, 0)))
		return
	}
	w.Trail = t
	end := m.Index + int64(len(m.Entries)) // which the log has now, or it lies below Base
	w.Commit = max(w.Commit, min(m.Commit, end))
	w.ack(m.From, true, max(end, w.Trail.Base))
}

func (w *work) bundled(m api.Message) {
	if w.Role == api.Leader {
		return
	}
	w.obey(m.From)
	if m.Index > w.Commit {
		w.replace(m)
	}
	w.ack(m.From, true, w.Commit)
}

// replace lets a bundle stand for the entries up to its Index, which is above Commit.
func (w *work) replace(m api.Message) {
	behind := api.Trail{Base: m.Index, BaseTerm: m.LogTerm}
	if term, ok := trail.Term(w.Trail, m.Index); ok && term == m.LogTerm {
		behind, _ = trail.Cut(w.Trail, m.Index)
	}
	w.Trail, w.Snap, w.Commit = behind, m.Data, m.Index
}

func (w *work) acked(m api.Message) {
	if w.Role != api.Leader || m.Index > w.last() {
		return
	}
	i := w.place(m.From)
	if !m.Yes {
		w.Next[i] = max(min(m.Index+1, w.Next[i]-1), w.Match[i]+1)
		w.push(i)
		return
	}
	w.Match[i] = max(w.Match[i], m.Index)
	w.Next[i] = w.Match[i] + 1
	w.agree()
	if w.Next[i] <= w.last() {
		w.push(i)
	}
}
