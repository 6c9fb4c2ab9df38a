package group

import (
	"matins/api"
	"matins/disk"
	"matins/store"
)

// node is a node of a group. Down, it has its disk alone.
type node struct {
	id   int
	disk *disk.Disk
	work *work // nil: it is down
}

// work is what a node has that is up.
type work struct {
	store *store.Store
	raft  api.Raft
	total total // of the entries that it holds for agreed on, up to raft.Commit
}

// open lets a node be up with what its disk holds. store.Open's errors, which leave it down.
func (n *node) open(conf []int) api.Errno {
	s, r, err := store.Open(n.disk, n.id, conf)
	if err != api.OK {
		return err
	}
	n.work = &work{store: s, raft: r, total: totalOf(r.Snap)}
	return api.OK
}

// crash takes a node down.
func (n *node) crash(keep, torn int) {
	n.disk.Crash(keep, torn)
	n.work = nil
}

// giveUp takes a node down whose store was refused something. Of what wasn't synced nothing stays, whatever the act says of a crash.
func (n *node) giveUp() api.Errno {
	n.crash(0, 0)
	return api.ErrFull
}

// pack lays a node's store anew. ErrFull, and it is down.
func (n *node) pack() api.Errno {
	if n.work.store.Pack() != api.OK {
		return n.giveUp()
	}
	return api.OK
}
