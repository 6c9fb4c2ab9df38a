package group

import "matins/api"

// packAbove is how many records a store has at most behind a step, unless it needs more.
const packAbove = 100

// step is what comes behind one call of raft: r is what it made of the node, sent what the node sends. What it sends stands on what it has synced, and so do the group's notes.
func (g *Group) step(n *node, r api.Raft, sent []api.Message, a api.Act) api.Errno {
	w := n.work
	was := w.raft
	w.raft = r
	if w.store.Write(r) != api.OK {
		return n.giveUp()
	}
	if a.Fail {
		n.crash(a.Keep, a.Torn)
		return api.OK
	}
	w.store.Sync()
	g.send(sent)
	g.take(w, was)
	if w.store.Count() > packAbove {
		return n.pack()
	}
	return api.OK
}

// send puts messages into the mesh. What it refuses is lost, as may be whatever is sent.
func (g *Group) send(sent []api.Message) {
	for _, m := range sent {
		g.mesh.Send(m.From, m.To, Wire(m))
	}
}

// take takes what a node holds for agreed on newly into its total, and notes it.
func (g *Group) take(w *work, was api.Raft) {
	t, from := w.raft.Trail, was.Commit
	if t.Base != was.Trail.Base { // only a Bundle moves the base in a step
		from, w.total = t.Base, totalOf(w.raft.Snap)
		g.notes.holdTotal(t.Base, w.total)
	}
	for n := from + 1; n <= w.raft.Commit; n++ {
		e := t.Entries[n-t.Base-1]
		w.total = w.total.with(g.table, e)
		g.notes.agree(g.table, n, e)
	}
	if w.raft.Role == api.Leader {
		g.notes.lead(api.Item{Id: w.raft.Id, At: w.raft.Term})
	}
}
