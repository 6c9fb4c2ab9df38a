package group

import (
	"slices"

	"matins/api"
	"matins/code"
	"matins/crc"
)

// total is what entries come to: how many have Data, and the check sum of all of it.
type total struct {
	count int64
	sum   uint32
}

// with is the total with an entry more.
func (s total) with(t *crc.Table, e api.Entry) total {
	if e.Data != "" {
		s.count++
	}
	s.sum = t.More(s.sum, []byte(e.Data))
	return s
}

// snap is the Snap that tells a total.
func (s total) snap() string {
	b, _ := code.Encode([]api.Field{{Kind: api.Num, N: s.count}, {Kind: api.Num, N: int64(s.sum)}})
	return string(b)
}

// totalOf is the total that a Snap tells; that of no entries, if it is empty.
func totalOf(snap string) total {
	f, err := code.Decode([]int{api.Num, api.Num}, []byte(snap))
	if err != api.OK {
		return total{}
	}
	return total{count: f[0].N, sum: uint32(f[1].N)}
}

// notes are what is noted of a group beside its nodes, so that what they hold can be held against each other.
type notes struct {
	entries []api.Entry // what has been agreed on
	totals  []total     // of the first entries, up to each
	leaders []api.Item
	broken  bool
}

// agree holds the entry number n, which a node holds for agreed on, against the others.
func (o *notes) agree(t *crc.Table, n int64, e api.Entry) {
	has := int64(len(o.entries))
	switch {
	case n == has+1:
		o.totals = append(o.totals, o.upTo(has).with(t, e))
		o.entries = append(o.entries, e)
	case n > has || o.entries[n-1] != e:
		o.broken = true
	}
}

// holdTotal holds what a Snap says that the first n entries come to against the others.
func (o *notes) holdTotal(n int64, s total) {
	if n > int64(len(o.entries)) || o.upTo(n) != s {
		o.broken = true
	}
}

// lead notes a leader with its term, once.
func (o *notes) lead(leader api.Item) {
	if !slices.Contains(o.leaders, leader) {
		o.leaders = append(o.leaders, leader)
	}
}

// upTo is what the first n entries come to, of no more than there are.
func (o *notes) upTo(n int64) total {
	if n == 0 {
		return total{}
	}
	return o.totals[n-1]
}
