package group_test

import (
	"encoding/binary"
	"hash/crc32"
	"math"
	"slices"
	"strings"

	"matins/api"
	"matins/disk"
	"matins/mesh"
	"matins/raft"
	"matins/store"
)

// The paper reads the chapter plainly, with sums, numbers and wires of its own; nodes, stores, disks and meshes are those of their layers.

// paperNode is a node, with all the Data that it holds for agreed on since its Snap.
type paperNode struct {
	id    int
	disk  *disk.Disk
	up    bool
	store *store.Store
	r     api.Raft
	count int64
	sum   uint32
}

type paper struct {
	conf    []int
	nodes   map[int]*paperNode
	mesh    *mesh.Mesh
	agreed  []api.Entry
	leaders []api.Item
	broken  bool
}

func newPaper(conf []int) *paper {
	p := &paper{conf: conf, nodes: map[int]*paperNode{}, mesh: mesh.New()}
	for _, id := range conf {
		n := &paperNode{id: id, disk: disk.New(), up: true}
		n.store, _, _ = store.Open(n.disk, id, conf)
		n.r, _ = raft.New(id, conf)
		p.nodes[id] = n
	}
	return p
}

func isConf(conf []int) bool {
	last := 0
	for _, id := range conf {
		if id <= last {
			return false
		}
		last = id
	}
	return len(conf) >= 1 && len(conf) <= 7
}

func (p *paper) do(a api.Act) api.Errno {
	n := p.nodes[a.Node]
	if n == nil && slices.Contains([]int{api.ActTick, api.ActPropose, api.ActCrash, api.ActRestart, api.ActPack}, a.Kind) {
		return api.ErrArg
	}
	switch a.Kind {
	case api.ActTick, api.ActPropose, api.ActCrash, api.ActPack:
		if !n.up {
			return api.ErrState
		}
	}
	switch a.Kind {
	case api.ActTick:
		r, sent := raft.Tick(n.r, a.Draw)
		return p.step(n, r, sent, a)
	case api.ActDeliver:
		return p.deliver(a)
	case api.ActDrop:
		if p.mesh.Drop(a.Id) {
			return api.OK
		}
		return api.ErrMiss
	case api.ActDouble:
		_, err := p.mesh.Double(a.Id)
		return err
	case api.ActPropose:
		r, sent, _, err := raft.Propose(n.r, a.Data)
		if err != api.OK {
			return err
		}
		return p.step(n, r, sent, a)
	case api.ActCrash:
		n.down(a.Keep, a.Torn)
		return api.OK
	case api.ActRestart:
		return p.restart(n)
	case api.ActCut:
		p.mesh.Cut(a.Node, a.Other)
		return api.OK
	case api.ActJoin:
		p.mesh.Join(a.Node, a.Other)
		return api.OK
	case api.ActPack:
		return p.pack(n)
	}
	return api.ErrArg
}

func (p *paper) deliver(a api.Act) api.Errno {
	packet, ok := p.mesh.Deliver(a.Id)
	if !ok {
		return api.ErrMiss
	}
	n := p.nodes[packet.To]
	if n == nil || !n.up {
		return api.OK
	}
	m, err := paperUnwire(packet.Body)
	if err != api.OK {
		return api.OK
	}
	r, sent := raft.Handle(n.r, m)
	return p.step(n, r, sent, a)
}

func (p *paper) restart(n *paperNode) api.Errno {
	if n.up {
		return api.ErrState
	}
	s, r, err := store.Open(n.disk, n.id, p.conf)
	if err != api.OK {
		return err
	}
	n.up, n.store, n.r = true, s, r
	n.count, n.sum = paperSnap(r.Snap)
	p.holdSnap(n)
	return api.OK
}

func (p *paper) pack(n *paperNode) api.Errno {
	r, err := raft.Compact(n.r, n.r.Commit, snapOf(n.count, n.sum))
	if err != api.OK {
		return err
	}
	n.r = r
	if n.store.Write(r) != api.OK || n.store.Sync() != api.OK || n.store.Pack() != api.OK {
		n.down(0, 0)
		return api.ErrFull
	}
	return api.OK
}

func (p *paper) step(n *paperNode, r api.Raft, sent []api.Message, a api.Act) api.Errno {
	old := n.r
	n.r = r
	if n.store.Write(r) != api.OK {
		n.down(0, 0)
		return api.ErrFull
	}
	if a.Fail {
		n.down(a.Keep, a.Torn)
		return api.OK
	}
	n.store.Sync()
	for _, m := range sent {
		p.mesh.Send(m.From, m.To, paperWire(m))
	}
	if r.Snap != old.Snap || r.Trail.Base != old.Trail.Base {
		n.count, n.sum = paperSnap(r.Snap)
		p.holdSnap(n)
		old.Commit = r.Trail.Base
	}
	for number := old.Commit + 1; number <= r.Commit; number++ {
		p.hold(n, number)
	}
	leads := api.Item{Id: n.id, At: r.Term}
	if r.Role == api.Leader && !slices.Contains(p.leaders, leads) {
		p.leaders = append(p.leaders, leads)
	}
	if n.store.Count() > 100 && n.store.Pack() != api.OK {
		n.down(0, 0)
		return api.ErrFull
	}
	return api.OK
}

// hold takes an entry into a node's Count and Sum, and holds it against the list.
func (p *paper) hold(n *paperNode, number int64) {
	e := n.r.Trail.Entries[number-n.r.Trail.Base-1]
	if len(e.Data) > 0 {
		n.count++
	}
	n.sum = crc32.Update(n.sum, crc32.IEEETable, []byte(e.Data))
	at := int(number) - 1
	if at == len(p.agreed) {
		p.agreed = append(p.agreed, e)
	}
	if at > len(p.agreed) || p.agreed[at] != e {
		p.broken = true
	}
}

// holdSnap holds Count and Sum of a node's Snap against the list.
func (p *paper) holdSnap(n *paperNode) {
	base := n.r.Trail.Base
	if base > int64(len(p.agreed)) {
		p.broken = true
		return
	}
	if count, sum := comeTo(p.agreed[:base]); count != n.count || sum != n.sum {
		p.broken = true
	}
}

func (n *paperNode) down(keep, torn int) {
	n.disk.Crash(keep, torn)
	*n = paperNode{id: n.id, disk: n.disk}
}

// comeTo is what entries come to, all of them.
func comeTo(list []api.Entry) (int64, uint32) {
	var all strings.Builder
	count := int64(0)
	for _, e := range list {
		all.WriteString(e.Data)
		if e.Data > "" {
			count++
		}
	}
	return count, crc32.ChecksumIEEE([]byte(all.String()))
}

func snapOf(count int64, sum uint32) string {
	return string(binary.AppendUvarint(binary.AppendUvarint(nil, uint64(count)), uint64(sum)))
}

func paperSnap(snap string) (int64, uint32) {
	count, size := binary.Uvarint([]byte(snap))
	if size < 1 {
		return 0, 0
	}
	sum, _ := binary.Uvarint([]byte(snap[size:]))
	return int64(count), uint32(sum)
}

func (p *paper) view(id int) (api.View, api.Errno) {
	n := p.nodes[id]
	if n == nil {
		return api.View{}, api.ErrArg
	}
	if !n.up {
		return api.View{}, api.OK
	}
	r := n.r
	return api.View{Up: true, Role: r.Role, Term: r.Term, Vote: r.Vote, Commit: r.Commit, Base: r.Trail.Base, Count: n.count, Sum: n.sum}, api.OK
}

func (p *paper) records(id int) int {
	if n := p.nodes[id]; n != nil && n.up {
		return n.store.Count()
	}
	return 0
}

// free is how many bytes a node's disk has room for.
func (p *paper) free(id int) int {
	d, used := p.nodes[id].disk, 0
	for _, name := range d.Names() {
		b, _ := d.Read(name)
		used += len(b)
	}
	return api.MaxDisk - used
}

func paperWire(m api.Message) string {
	yes := int64(0)
	if m.Yes {
		yes = 1
	}
	var b []byte
	good := len(m.Entries) <= 127
	num := func(n int64) {
		good = good && n >= 0
		b = binary.AppendUvarint(b, uint64(n))
	}
	text := func(s string) {
		good = good && len(s) <= 65536
		b = append(binary.AppendUvarint(b, uint64(len(s))), s...)
	}
	for _, n := range []int64{int64(m.Kind), int64(m.From), int64(m.To), m.Term, m.Index, m.LogTerm, m.Commit, yes, int64(len(m.Entries))} {
		num(n)
	}
	for _, e := range m.Entries {
		num(e.Term)
		text(e.Data)
	}
	text(m.Data)
	if !good {
		return ""
	}
	return string(b)
}

// paperUnwire reads numbers as they come, and takes a message whose wire the body is.
func paperUnwire(body string) (api.Message, api.Errno) {
	rest, good := []byte(body), true
	num := func(most uint64) int64 {
		n, size := binary.Uvarint(rest)
		if size < 1 || n > most {
			good, rest = false, nil
			return 0
		}
		rest = rest[size:]
		return int64(n)
	}
	text := func() string {
		size := num(65536)
		if size > int64(len(rest)) {
			good, rest = false, nil
			return ""
		}
		s := string(rest[:size])
		rest = rest[size:]
		return s
	}
	var n [7]int64
	for i := range n {
		n[i] = num(math.MaxInt64)
	}
	m := api.Message{Kind: int(n[0]), From: int(n[1]), To: int(n[2]), Term: n[3], Index: n[4], LogTerm: n[5], Commit: n[6], Yes: num(1) == 1}
	for range num(127) {
		m.Entries = append(m.Entries, api.Entry{Term: num(math.MaxInt64), Data: text()})
	}
	m.Data = text()
	if !good || len(rest) > 0 || paperWire(m) != body { // a number may have been longer than it can be
		return api.Message{}, api.ErrBytes
	}
	return m, api.OK
}
