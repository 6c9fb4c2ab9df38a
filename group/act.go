package group

import (
	"matins/api"
	"matins/raft"
)

// deeds is what the acts do, by their Kinds.
func deeds() [api.ActPack + 1]func(*Group, api.Act) api.Errno {
	return [...]func(*Group, api.Act) api.Errno{
		api.ActTick:    (*Group).tick,
		api.ActDeliver: (*Group).deliver,
		api.ActDrop:    (*Group).drop,
		api.ActDouble:  (*Group).double,
		api.ActPropose: (*Group).propose,
		api.ActCrash:   (*Group).crash,
		api.ActRestart: (*Group).restart,
		api.ActCut:     (*Group).cut,
		api.ActJoin:    (*Group).join,
		api.ActPack:    (*Group).pack,
	}
}

func (g *Group) tick(a api.Act) api.Errno {
	n, err := g.up(a.Node)
	if err != api.OK {
		return err
	}
	r, sent := raft.Tick(n.work.raft, a.Draw)
	return g.step(n, r, sent, a)
}

// deliver answers OK where nobody takes the packet too: it is in flight no more.
func (g *Group) deliver(a api.Act) api.Errno {
	p, ok := g.mesh.Deliver(a.Id)
	if !ok {
		return api.ErrMiss
	}
	n, err := g.up(p.To)
	if err != api.OK {
		return api.OK
	}
	m, err := Unwire(p.Body)
	if err != api.OK {
		return api.OK
	}
	r, sent := raft.Handle(n.work.raft, m)
	return g.step(n, r, sent, a)
}

func (g *Group) drop(a api.Act) api.Errno {
	if !g.mesh.Drop(a.Id) {
		return api.ErrMiss
	}
	return api.OK
}

func (g *Group) double(a api.Act) api.Errno {
	_, err := g.mesh.Double(a.Id)
	return err
}

func (g *Group) propose(a api.Act) api.Errno {
	n, err := g.up(a.Node)
	if err != api.OK {
		return err
	}
	r, sent, _, err := raft.Propose(n.work.raft, a.Data)
	if err != api.OK {
		return err
	}
	return g.step(n, r, sent, a)
}

func (g *Group) crash(a api.Act) api.Errno {
	n, err := g.up(a.Node)
	if err != api.OK {
		return err
	}
	n.crash(a.Keep, a.Torn)
	return api.OK
}

func (g *Group) restart(a api.Act) api.Errno {
	n := g.find(a.Node)
	switch {
	case n == nil:
		return api.ErrArg
	case n.work != nil:
		return api.ErrState
	}
	if err := n.open(g.conf); err != api.OK {
		return err
	}
	g.notes.holdTotal(n.work.raft.Trail.Base, n.work.total)
	return api.OK
}

func (g *Group) cut(a api.Act) api.Errno {
	g.mesh.Cut(a.Node, a.Other)
	return api.OK
}

func (g *Group) join(a api.Act) api.Errno {
	g.mesh.Join(a.Node, a.Other)
	return api.OK
}

func (g *Group) pack(a api.Act) api.Errno {
	n, err := g.up(a.Node)
	if err != api.OK {
		return err
	}
	w := n.work
	w.raft, _ = raft.Compact(w.raft, w.raft.Commit, w.total.snap()) // of a right node, up to its Commit: it isn't refused
	if w.store.Write(w.raft) != api.OK {
		return n.giveUp()
	}
	w.store.Sync()
	return n.pack()
}

// up is the node of a number, if it is up. ErrArg, ErrState.
func (g *Group) up(id int) (*node, api.Errno) {
	n := g.find(id)
	switch {
	case n == nil:
		return nil, api.ErrArg
	case n.work == nil:
		return nil, api.ErrState
	}
	return n, api.OK
}
