package mesh_test

import (
	"math"
	"math/rand"
	"slices"
	"strconv"
	"strings"
	"testing"

	"matins/api"
	"matins/mesh"
)

// numbers are those that a wrong order or a wrong reading would mix up.
var numbers = []int{
	math.MinInt, math.MinInt + 1, math.MinInt32 - 1, math.MinInt32, -20000, -2, -1, 0, 1, 2, 3, 101, 10001, 20000, 1<<16 + 1,
	math.MaxInt32, math.MaxInt32 + 1, 1 << 32, 1<<32 + 1, math.MaxInt - 1, math.MaxInt,
}

// noIds are Ids that no packet gets in these tests.
var noIds = []int{math.MinInt, math.MinInt + 1, math.MinInt32, -1 << 16, -3, -2, -1, 0, 1 << 20, math.MaxInt32, 1 << 32, 1<<32 + 1, 1<<32 + 2, math.MaxInt - 1, math.MaxInt}

// paper reads the chapter plainly: all packets that ever came into flight, whether they still are, and the cuts as they were said.
type paper struct {
	packets []api.Packet
	flies   []bool
	cuts    [][2]int
}

func (p *paper) count() int {
	n := 0
	for _, f := range p.flies {
		if f {
			n++
		}
	}
	return n
}

func (p *paper) has(id int) bool { return id >= 1 && id <= len(p.packets) && p.flies[id-1] }

func (p *paper) isCut(a, b int) bool {
	return slices.Contains(p.cuts, [2]int{a, b}) || slices.Contains(p.cuts, [2]int{b, a})
}

func (p *paper) come(from, to int, body string) (int, api.Errno) {
	if p.count() >= 512 {
		return 0, api.ErrFull
	}
	id := len(p.packets) + 1
	p.packets = append(p.packets, api.Packet{Id: id, From: from, To: to, Body: body})
	p.flies = append(p.flies, true)
	return id, api.OK
}

func (p *paper) send(from, to int, body string) (int, api.Errno) {
	if len(body) > 65536 {
		return 0, api.ErrArg
	}
	return p.come(from, to, body)
}

func (p *paper) double(id int) (int, api.Errno) {
	if !p.has(id) {
		return 0, api.ErrMiss
	}
	old := p.packets[id-1]
	return p.come(old.From, old.To, old.Body)
}

func (p *paper) deliver(id int) (api.Packet, bool) {
	if !p.has(id) || p.isCut(p.packets[id-1].From, p.packets[id-1].To) {
		return api.Packet{}, false
	}
	p.flies[id-1] = false
	return p.packets[id-1], true
}

func (p *paper) next() (api.Packet, bool) {
	for id := 1; id <= len(p.packets); id++ {
		if got, ok := p.deliver(id); ok {
			return got, true
		}
	}
	return api.Packet{}, false
}

func (p *paper) drop(id int) bool {
	if !p.has(id) {
		return false
	}
	p.flies[id-1] = false
	return true
}

func (p *paper) cut(a, b int) { p.cuts = append(p.cuts, [2]int{a, b}) }

func (p *paper) join(a, b int) {
	p.cuts = slices.DeleteFunc(p.cuts, func(c [2]int) bool { return c == [2]int{a, b} || c == [2]int{b, a} })
}

func (p *paper) flight() []api.Packet {
	var l []api.Packet
	for i, f := range p.flies {
		if f {
			l = append(l, p.packets[i])
		}
	}
	return l
}

func packet(id, from, to int, body string) api.Packet {
	return api.Packet{Id: id, From: from, To: to, Body: body}
}

// tell tells packets; of long Bodies only how long they are.
func tell(packets ...api.Packet) string {
	if len(packets) > 20 {
		return strconv.Itoa(len(packets)) + " packets"
	}
	var l []string
	for _, p := range packets {
		body := strconv.Quote(p.Body)
		if len(p.Body) > 40 {
			body = strconv.Itoa(len(p.Body)) + " bytes"
		}
		l = append(l, "{"+strings.Join([]string{strconv.Itoa(p.Id), strconv.Itoa(p.From), strconv.Itoa(p.To), body}, " ")+"}")
	}
	return "[" + strings.Join(l, " ") + "]"
}

func send(t testing.TB, m *mesh.Mesh, from, to int, body string, want int) {
	t.Helper()
	if id, e := m.Send(from, to, body); id != want || e != api.OK {
		t.Fatalf("P11.1: Send(%d, %d, ..) of %d bytes: %d, %d, want %d", from, to, len(body), id, e, want)
	}
}

func wantNoSend(t testing.TB, m *mesh.Mesh, from, to int, body string, want api.Errno) {
	t.Helper()
	if id, e := m.Send(from, to, body); id != 0 || e != want {
		t.Errorf("P11.1: Send(%d, %d, ..) of %d bytes: %d, %d, want the error %d", from, to, len(body), id, e, want)
	}
}

func double(t testing.TB, m *mesh.Mesh, id, want int) {
	t.Helper()
	if got, e := m.Double(id); got != want || e != api.OK {
		t.Fatalf("P11.1: Double(%d): %d, %d, want %d", id, got, e, want)
	}
}

func wantNoDouble(t testing.TB, m *mesh.Mesh, id int, want api.Errno) {
	t.Helper()
	if got, e := m.Double(id); got != 0 || e != want {
		t.Errorf("P11.1: Double(%d): %d, %d, want the error %d", id, got, e, want)
	}
}

func wantDeliver(t testing.TB, m *mesh.Mesh, want api.Packet) {
	t.Helper()
	if p, ok := m.Deliver(want.Id); p != want || !ok {
		t.Errorf("P11.2: Deliver(%d): %s, %t, want %s", want.Id, tell(p), ok, tell(want))
	}
}

func wantNoDeliver(t testing.TB, m *mesh.Mesh, ids ...int) {
	t.Helper()
	for _, id := range ids {
		if p, ok := m.Deliver(id); p != (api.Packet{}) || ok {
			t.Errorf("P11.2: Deliver(%d): %s, %t, want none", id, tell(p), ok)
		}
	}
}

func wantNext(t testing.TB, m *mesh.Mesh, want ...api.Packet) {
	t.Helper()
	for _, w := range want {
		if p, ok := m.Next(); p != w || !ok {
			t.Errorf("P11.2: Next: %s, %t, want %s", tell(p), ok, tell(w))
		}
	}
}

func wantNoNext(t testing.TB, m *mesh.Mesh) {
	t.Helper()
	if p, ok := m.Next(); p != (api.Packet{}) || ok {
		t.Errorf("P11.2: Next: %s, %t, want none", tell(p), ok)
	}
}

func wantDrop(t testing.TB, m *mesh.Mesh, id int, want bool) {
	t.Helper()
	if got := m.Drop(id); got != want {
		t.Errorf("P11.3: Drop(%d): %t, want %t", id, got, want)
	}
}

func wantFlight(t testing.TB, m *mesh.Mesh, want ...api.Packet) {
	t.Helper()
	if got := m.Flight(); !slices.Equal(got, want) {
		t.Errorf("P11.3: Flight: %s, want %s", tell(got...), tell(want...))
	}
}

// wantNone asks each call for Ids that aren't in flight.
func wantNone(t testing.TB, m *mesh.Mesh, ids ...int) {
	t.Helper()
	for _, id := range ids {
		wantNoDeliver(t, m, id)
		wantDrop(t, m, id, false)
		wantNoDouble(t, m, id, api.ErrMiss)
	}
}

// fill sends packets from 1 to 2 till MaxFlight are in flight, the first of which gets the Id next.
func fill(t testing.TB, m *mesh.Mesh, next int) {
	t.Helper()
	for n := len(m.Flight()); n < api.MaxFlight; n++ {
		send(t, m, 1, 2, "f"+strconv.Itoa(next), next)
		next++
	}
	if n := len(m.Flight()); n != api.MaxFlight {
		t.Fatalf("P11.3: %d packets in flight", n)
	}
}

func TestExample(t *testing.T) {
	m := mesh.New()
	send(t, m, 1, 2, "x", 1)
	send(t, m, 2, 1, "y", 2)
	double(t, m, 1, 3)
	m.Cut(2, 1)
	wantNoDeliver(t, m, 1)
	wantNoNext(t, m)
	m.Join(1, 2)
	wantNext(t, m, packet(1, 1, 2, "x"))
	wantDeliver(t, m, packet(3, 1, 2, "x"))
	wantNoDeliver(t, m, 3)
	wantDrop(t, m, 2, true)
	send(t, m, 7, 8, "..", 4)
	wantFlight(t, m, packet(4, 7, 8, ".."))
}

func TestNew(t *testing.T) {
	m := mesh.New()
	if m == nil {
		t.Fatal("New: nil")
	}
	wantFlight(t, m)
	wantNoNext(t, m)
	wantNone(t, m, append([]int{1, 2, 3}, noIds...)...)
	for _, a := range numbers {
		for _, b := range numbers {
			m.Join(a, b)
		}
	}
	wantFlight(t, m)
	send(t, m, 1, 2, "", 1)
	wantNext(t, m, packet(1, 1, 2, ""))
}

func TestSend(t *testing.T) {
	m := mesh.New()
	send(t, m, 1, 2, "ab", 1)
	wantFlight(t, m, packet(1, 1, 2, "ab"))
	send(t, m, 2, 1, "c\x00\xff", 2)
	send(t, m, 1, 2, "ab", 3)
	send(t, m, 3, 3, "\u20ac\n", 4)
	want := []api.Packet{packet(1, 1, 2, "ab"), packet(2, 2, 1, "c\x00\xff"), packet(3, 1, 2, "ab"), packet(4, 3, 3, "\u20ac\n")}
	wantFlight(t, m, want...)
	wantNext(t, m, want...)
	wantFlight(t, m)
}

func TestDouble(t *testing.T) {
	m := mesh.New()
	send(t, m, -5, 7, "body", 1)
	send(t, m, 7, -5, "other", 2)
	double(t, m, 1, 3)
	double(t, m, 2, 4)
	double(t, m, 3, 5)
	want := []api.Packet{packet(1, -5, 7, "body"), packet(2, 7, -5, "other"), packet(3, -5, 7, "body"), packet(4, 7, -5, "other"), packet(5, -5, 7, "body")}
	wantFlight(t, m, want...)
	wantDeliver(t, m, want[4])
	wantDrop(t, m, 1, true)
	wantNone(t, m, 1, 5)
	wantFlight(t, m, want[1:4]...)
	double(t, m, 3, 6)
	wantNext(t, m, want[1], want[2], want[3], packet(6, -5, 7, "body"))
	wantNoNext(t, m)
}

func TestBodiesOfEachLength(t *testing.T) {
	m := mesh.New()
	long := strings.Repeat("0123456789abcdef", api.MaxText/16)
	if len(long) != api.MaxText {
		t.Fatalf("%d bytes", len(long))
	}
	send(t, m, 1, 2, "", 1)
	send(t, m, 1, 2, long, 2)
	send(t, m, 1, 2, long[1:], 3)
	for _, body := range []string{long + "x", "x" + long, long + long, strings.Repeat("\u20ac", api.MaxText/3+1)} {
		wantNoSend(t, m, 1, 2, body, api.ErrArg)
	}
	wantFlight(t, m, packet(1, 1, 2, ""), packet(2, 1, 2, long), packet(3, 1, 2, long[1:]))
	double(t, m, 1, 4)
	double(t, m, 2, 5)
	wantDeliver(t, m, packet(5, 1, 2, long))
	wantDeliver(t, m, packet(4, 1, 2, ""))
	wantNext(t, m, packet(1, 1, 2, ""), packet(2, 1, 2, long), packet(3, 1, 2, long[1:]))
}

// Bytes are counted, not runes: MaxText bytes of runes are no more than that.
func TestBodiesOfRunes(t *testing.T) {
	m := mesh.New()
	body := strings.Repeat("\u00e9", api.MaxText/2)
	send(t, m, 1, 2, body, 1)
	wantNoSend(t, m, 1, 2, body+"x", api.ErrArg)
	wantNoSend(t, m, 1, 2, body+"\u00e9", api.ErrArg)
	wantNext(t, m, packet(1, 1, 2, body))
	send(t, m, 1, 2, strings.Repeat("\xff", api.MaxText), 2)
	wantNoSend(t, m, 1, 2, strings.Repeat("\xff", api.MaxText+1), api.ErrArg)
}

func TestMaxFlight(t *testing.T) {
	m := mesh.New()
	fill(t, m, 1)
	before := m.Flight()
	for range 3 {
		wantNoSend(t, m, 1, 2, "", api.ErrFull)
		wantNoSend(t, m, 3, 4, "x", api.ErrFull)
		wantNoDouble(t, m, 1, api.ErrFull)
		wantNoDouble(t, m, api.MaxFlight, api.ErrFull)
	}
	wantFlight(t, m, before...)
	wantDrop(t, m, 7, true)
	send(t, m, 3, 4, "x", api.MaxFlight+1)
	wantNoSend(t, m, 3, 4, "x", api.ErrFull)
	wantDeliver(t, m, before[99])
	double(t, m, 1, api.MaxFlight+2)
	wantNoDouble(t, m, 1, api.ErrFull)
	wantNext(t, m, before[0])
	double(t, m, api.MaxFlight+1, api.MaxFlight+3)
	wantNoDouble(t, m, 2, api.ErrFull)
	want := slices.Concat(before[1:6], before[7:99], before[100:], []api.Packet{
		packet(api.MaxFlight+1, 3, 4, "x"), packet(api.MaxFlight+2, 1, 2, "f1"), packet(api.MaxFlight+3, 3, 4, "x"),
	})
	wantFlight(t, m, want...)
	wantNext(t, m, want...)
	wantNoNext(t, m)
	send(t, m, 1, 2, "again", api.MaxFlight+4)
}

// Packets that are cut are in flight like others: they fill a mesh too.
func TestMaxFlightOfWhatIsCut(t *testing.T) {
	m := mesh.New()
	m.Cut(1, 2)
	fill(t, m, 1)
	wantNoSend(t, m, 3, 4, "x", api.ErrFull)
	wantNoDouble(t, m, 1, api.ErrFull)
	wantNoNext(t, m)
	wantDrop(t, m, 1, true)
	send(t, m, 3, 4, "x", api.MaxFlight+1)
	wantNext(t, m, packet(api.MaxFlight+1, 3, 4, "x"))
	wantNoNext(t, m)
}

// A mesh is filled by doubles as it is by what is sent.
func TestMaxFlightOfDoubles(t *testing.T) {
	m := mesh.New()
	send(t, m, 1, 2, "x", 1)
	for id := 2; id <= api.MaxFlight; id++ {
		double(t, m, id/2, id)
	}
	wantNoDouble(t, m, 1, api.ErrFull)
	wantNoSend(t, m, 1, 2, "x", api.ErrFull)
	for id := 1; id <= api.MaxFlight; id++ {
		wantNext(t, m, packet(id, 1, 2, "x"))
	}
	wantFlight(t, m)
}

func TestErrorsInOrder(t *testing.T) {
	m := mesh.New()
	long := strings.Repeat("x", api.MaxText+1)
	wantNoSend(t, m, 1, 2, long, api.ErrArg)
	wantNoDouble(t, m, 1, api.ErrMiss)
	fill(t, m, 1)
	wantNoSend(t, m, 1, 2, long, api.ErrArg)
	wantNoSend(t, m, 1, 2, long[1:], api.ErrFull)
	wantNoDouble(t, m, api.MaxFlight+1, api.ErrMiss)
	for _, id := range noIds {
		wantNoDouble(t, m, id, api.ErrMiss)
	}
	wantNoDouble(t, m, 9, api.ErrFull)
	wantDrop(t, m, 9, true)
	wantNoSend(t, m, 1, 2, long, api.ErrArg)
	send(t, m, 1, 2, "", api.MaxFlight+1)
	wantNoDouble(t, m, 9, api.ErrMiss)
	m.Cut(1, 2)
	wantNoSend(t, m, 1, 2, long, api.ErrArg)
	wantNoSend(t, m, 1, 2, "", api.ErrFull)
	wantNoDouble(t, m, 10, api.ErrFull)
	wantNoDouble(t, m, 9, api.ErrMiss)
}

// Ids never come again, nor is one left out, whatever happened to the packets before or was refused.
func TestIdsNeverComeAgain(t *testing.T) {
	m := mesh.New()
	send(t, m, 1, 2, "a", 1)
	wantDrop(t, m, 1, true)
	send(t, m, 1, 2, "b", 2)
	wantDeliver(t, m, packet(2, 1, 2, "b"))
	send(t, m, 1, 2, "c", 3)
	wantNext(t, m, packet(3, 1, 2, "c"))
	wantNoSend(t, m, 1, 2, strings.Repeat("x", api.MaxText+1), api.ErrArg)
	send(t, m, 1, 2, "d", 4)
	wantNoDouble(t, m, 3, api.ErrMiss)
	wantNoDouble(t, m, 5, api.ErrMiss)
	double(t, m, 4, 5)
	wantDrop(t, m, 5, true)
	wantDrop(t, m, 5, false)
	double(t, m, 4, 6)
	m.Cut(1, 2)
	wantNoDeliver(t, m, 6)
	wantNoNext(t, m)
	send(t, m, 1, 2, "e", 7)
	fill(t, m, 8)
	last := m.Flight()[api.MaxFlight-1].Id
	wantNoSend(t, m, 1, 2, "", api.ErrFull)
	wantNoDouble(t, m, last, api.ErrFull)
	wantDrop(t, m, last, true)
	send(t, m, 1, 2, "f", last+1)
	m.Join(1, 2)
	for range api.MaxFlight {
		m.Next()
	}
	wantFlight(t, m)
	send(t, m, 1, 2, "g", last+2)
	wantNone(t, m, 1, 2, 3, 4, 5, 6, 7, last, last+1, last+3)
	wantFlight(t, m, packet(last+2, 1, 2, "g"))
}

// Many packets one behind the other: how many came before doesn't matter, only how many are in flight.
func TestManyPackets(t *testing.T) {
	m := mesh.New()
	for id := 1; id <= 200000; id++ {
		send(t, m, id%7, id%5, "x", id)
		if id > 100 {
			wantDeliver(t, m, packet(id-100, (id-100)%7, (id-100)%5, "x"))
		}
	}
	if n := len(m.Flight()); n != 100 {
		t.Errorf("P11.3: %d packets in flight", n)
	}
}

func TestDeliverInAnyOrder(t *testing.T) {
	for seed := range int64(20) {
		m := mesh.New()
		var all []api.Packet
		for id := 1; id <= 60; id++ {
			p := packet(id, id%4, -id%3, strconv.Itoa(id))
			send(t, m, p.From, p.To, p.Body, id)
			all = append(all, p)
		}
		for _, n := range rand.New(rand.NewSource(seed)).Perm(60) {
			wantDeliver(t, m, packet(n+1, (n+1)%4, -(n+1)%3, strconv.Itoa(n+1)))
			wantNone(t, m, n+1)
			all = slices.DeleteFunc(all, func(p api.Packet) bool { return p.Id == n+1 })
			wantFlight(t, m, all...)
		}
		wantNoNext(t, m)
	}
}

func TestDrop(t *testing.T) {
	m := mesh.New()
	for id := 1; id <= 5; id++ {
		send(t, m, 1, 2, strconv.Itoa(id), id)
	}
	for _, id := range []int{3, 1, 5} {
		wantDrop(t, m, id, true)
		wantDrop(t, m, id, false)
		wantNone(t, m, id)
	}
	wantFlight(t, m, packet(2, 1, 2, "2"), packet(4, 1, 2, "4"))
	wantNext(t, m, packet(2, 1, 2, "2"), packet(4, 1, 2, "4"))
	wantNoNext(t, m)
}

// A packet's double is one of its own: what becomes of one doesn't become of the other.
func TestDoublesAreApart(t *testing.T) {
	m := mesh.New()
	send(t, m, 1, 2, "x", 1)
	double(t, m, 1, 2)
	double(t, m, 1, 3)
	wantDrop(t, m, 1, true)
	wantFlight(t, m, packet(2, 1, 2, "x"), packet(3, 1, 2, "x"))
	wantDeliver(t, m, packet(3, 1, 2, "x"))
	wantFlight(t, m, packet(2, 1, 2, "x"))
	wantDrop(t, m, 2, true)
	wantFlight(t, m)
}

// Ids of 0, below 0, never given, and given but gone.
func TestNoIds(t *testing.T) {
	m := mesh.New()
	send(t, m, 1, 2, "x", 1)
	send(t, m, 1, 2, "y", 2)
	send(t, m, 1, 2, "z", 3)
	wantDeliver(t, m, packet(2, 1, 2, "y"))
	wantNone(t, m, append([]int{2, 4, 5, 6}, noIds...)...)
	wantFlight(t, m, packet(1, 1, 2, "x"), packet(3, 1, 2, "z"))
	send(t, m, 1, 2, "", 4)
}

func TestCutsBothWays(t *testing.T) {
	for _, cut := range [][2]int{{1, 2}, {2, 1}} {
		for _, join := range [][2]int{{1, 2}, {2, 1}} {
			m := mesh.New()
			send(t, m, 1, 2, "x", 1)
			send(t, m, 2, 1, "y", 2)
			m.Cut(cut[0], cut[1])
			send(t, m, 1, 2, "z", 3)
			all := []api.Packet{packet(1, 1, 2, "x"), packet(2, 2, 1, "y"), packet(3, 1, 2, "z")}
			wantNoDeliver(t, m, 1, 2, 3)
			wantNoNext(t, m)
			wantFlight(t, m, all...)
			m.Join(join[0], join[1])
			wantFlight(t, m, all...)
			wantDeliver(t, m, all[1])
			wantNext(t, m, all[0], all[2])
			wantNoNext(t, m)
		}
	}
}

// Cuts aren't counted: what was cut twice, in whichever order, one Join joins; what was joined twice, one Cut cuts.
func TestCutsSaidTwice(t *testing.T) {
	for _, again := range [][2]int{{1, 2}, {2, 1}} {
		m := mesh.New()
		send(t, m, 1, 2, "x", 1)
		send(t, m, 2, 1, "y", 2)
		m.Join(again[0], again[1])
		m.Join(1, 2)
		m.Cut(1, 2)
		wantNoDeliver(t, m, 1, 2)
		m.Cut(again[0], again[1])
		m.Cut(1, 2)
		wantNoDeliver(t, m, 1, 2)
		wantNoNext(t, m)
		m.Join(again[0], again[1])
		wantDeliver(t, m, packet(2, 2, 1, "y"))
		m.Join(1, 2)
		m.Cut(again[0], again[1])
		wantNoDeliver(t, m, 1)
		m.Join(1, 2)
		wantNext(t, m, packet(1, 1, 2, "x"))
	}
}

// A packet from a number to itself passes, whatever that number is cut from, but itself.
func TestFromANumberToItself(t *testing.T) {
	for _, n := range numbers {
		m := mesh.New()
		send(t, m, n, n, "me", 1)
		send(t, m, 9, n, "you", 2)
		send(t, m, n, 9, "he", 3)
		m.Cut(n, 9)
		m.Cut(n, 10)
		m.Cut(11, n)
		wantDeliver(t, m, packet(1, n, n, "me"))
		wantNoDeliver(t, m, 2, 3)
		wantNoNext(t, m)
		m.Cut(n, n)
		send(t, m, n, n, "me too", 4)
		wantNoDeliver(t, m, 4)
		m.Join(n, 9)
		wantNext(t, m, packet(2, 9, n, "you"), packet(3, n, 9, "he"))
		wantNoNext(t, m)
		double(t, m, 4, 5)
		wantDrop(t, m, 4, true)
		m.Join(n, n)
		wantNext(t, m, packet(5, n, n, "me too"))
		wantNoNext(t, m)
	}
}

// A number that is cut from itself is cut from no other one, and joins with others don't join it.
func TestCutWithItself(t *testing.T) {
	m := mesh.New()
	m.Cut(5, 5)
	m.Cut(5, 5)
	send(t, m, 5, 5, "a", 1)
	send(t, m, 5, 6, "b", 2)
	send(t, m, 6, 5, "c", 3)
	send(t, m, 6, 6, "d", 4)
	m.Join(5, 6)
	m.Join(6, 6)
	wantNoDeliver(t, m, 1)
	wantNext(t, m, packet(2, 5, 6, "b"), packet(3, 6, 5, "c"), packet(4, 6, 6, "d"))
	wantNoNext(t, m)
	m.Join(5, 5)
	wantNext(t, m, packet(1, 5, 5, "a"))
}

// Each pair of numbers, below 0 and far from each other too: a cut holds between these two alone.
func TestCutOfEachPair(t *testing.T) {
	for i, a := range numbers {
		for _, b := range numbers[i:] {
			m := mesh.New()
			id := 0
			for _, from := range numbers {
				for _, to := range []int{a, b} {
					id++
					send(t, m, from, to, "", id)
				}
			}
			m.Cut(a, b)
			var left []api.Packet
			for _, p := range m.Flight() {
				if p.From == a && p.To == b || p.From == b && p.To == a {
					wantNoDeliver(t, m, p.Id)
					left = append(left, p)
				} else {
					wantDeliver(t, m, p)
				}
			}
			wantNoNext(t, m)
			wantFlight(t, m, left...)
			m.Join(b, a)
			wantNext(t, m, left...)
			wantFlight(t, m)
		}
	}
}

// As TestCutOfEachPair, with all pairs cut and one joined.
func TestJoinOfEachPair(t *testing.T) {
	m := mesh.New()
	for _, a := range numbers {
		for _, b := range numbers {
			m.Cut(a, b)
		}
	}
	var all []api.Packet
	for i, a := range numbers {
		for _, b := range numbers[i:] {
			p := packet(len(all)+1, a, b, "")
			if p.Id%2 == 0 {
				p.From, p.To = b, a
			}
			send(t, m, p.From, p.To, "", p.Id)
			all = append(all, p)
		}
	}
	for n := len(all) - 1; n >= 0; n-- {
		wantNoDeliver(t, m, all[n].Id)
		wantNoNext(t, m)
		m.Join(all[n].From, all[n].To)
		wantNext(t, m, all[n])
	}
	wantFlight(t, m)
}

// Cuts hold pair by pair, not from one number to a third by way of a second.
func TestCutsArePairs(t *testing.T) {
	m := mesh.New()
	m.Cut(1, 2)
	m.Cut(2, 3)
	send(t, m, 1, 3, "a", 1)
	send(t, m, 3, 1, "b", 2)
	send(t, m, 1, 2, "c", 3)
	send(t, m, 3, 2, "d", 4)
	wantNext(t, m, packet(1, 1, 3, "a"), packet(2, 3, 1, "b"))
	wantNoNext(t, m)
	m.Join(1, 3)
	wantNoNext(t, m)
	m.Join(3, 2)
	wantNoDeliver(t, m, 3)
	wantNext(t, m, packet(4, 3, 2, "d"))
	wantNoNext(t, m)
	m.Join(2, 1)
	wantNext(t, m, packet(3, 1, 2, "c"))
}

// Deliver and Next of what is cut change nothing, however often they are asked.
func TestAskingForWhatIsCutChangesNothing(t *testing.T) {
	m := mesh.New()
	send(t, m, 1, 2, "x", 1)
	send(t, m, 2, 1, "y", 2)
	m.Cut(1, 2)
	for range 5 {
		wantNoDeliver(t, m, 2, 1)
		wantNoNext(t, m)
		wantFlight(t, m, packet(1, 1, 2, "x"), packet(2, 2, 1, "y"))
	}
	send(t, m, 1, 3, "z", 3)
	wantNoDeliver(t, m, 1)
	wantDeliver(t, m, packet(3, 1, 3, "z"))
	m.Join(1, 2)
	wantNext(t, m, packet(1, 1, 2, "x"), packet(2, 2, 1, "y"))
}

func TestNextAmongCuts(t *testing.T) {
	m := mesh.New()
	m.Cut(1, 2)
	m.Cut(3, 3)
	send(t, m, 1, 2, "a", 1)
	send(t, m, 1, 3, "b", 2)
	send(t, m, 2, 1, "c", 3)
	send(t, m, 3, 3, "d", 4)
	send(t, m, 3, 1, "e", 5)
	send(t, m, 2, 3, "f", 6)
	send(t, m, 1, 2, "g", 7)
	wantNext(t, m, packet(2, 1, 3, "b"))
	m.Cut(1, 3)
	wantNext(t, m, packet(6, 2, 3, "f"))
	wantNoNext(t, m)
	wantFlight(t, m, packet(1, 1, 2, "a"), packet(3, 2, 1, "c"), packet(4, 3, 3, "d"), packet(5, 3, 1, "e"), packet(7, 1, 2, "g"))
	m.Join(3, 3)
	wantNext(t, m, packet(4, 3, 3, "d"))
	wantNoNext(t, m)
	m.Join(2, 1)
	wantNext(t, m, packet(1, 1, 2, "a"), packet(3, 2, 1, "c"), packet(7, 1, 2, "g"))
	wantNoNext(t, m)
	m.Join(1, 3)
	wantNext(t, m, packet(5, 3, 1, "e"))
	wantFlight(t, m)
}

// What is cut may be lost and doubled; its double is cut too, since it has the same From and To.
func TestDropAndDoubleOfWhatIsCut(t *testing.T) {
	m := mesh.New()
	send(t, m, 1, 2, "x", 1)
	send(t, m, 2, 1, "y", 2)
	m.Cut(1, 2)
	double(t, m, 1, 3)
	double(t, m, 2, 4)
	wantNoDeliver(t, m, 1, 2, 3, 4)
	wantDrop(t, m, 1, true)
	wantDrop(t, m, 1, false)
	wantFlight(t, m, packet(2, 2, 1, "y"), packet(3, 1, 2, "x"), packet(4, 2, 1, "y"))
	m.Join(1, 2)
	wantDeliver(t, m, packet(3, 1, 2, "x"))
	wantNext(t, m, packet(2, 2, 1, "y"), packet(4, 2, 1, "y"))
	wantNoNext(t, m)
}

// Cuts stand by themselves: no packet makes or ends one.
func TestCutsStay(t *testing.T) {
	m := mesh.New()
	m.Cut(1, 2)
	for id := 1; id <= 40; id++ {
		send(t, m, 2, 1, "x", id)
		wantNoDeliver(t, m, id)
		wantDrop(t, m, id, true)
	}
	m.Join(1, 2)
	for id := 41; id <= 80; id++ {
		send(t, m, 2, 1, "x", id)
		wantDeliver(t, m, packet(id, 2, 1, "x"))
	}
}

func TestManyCuts(t *testing.T) {
	const count = 300
	m := mesh.New()
	for a := range count {
		for b := range count {
			if (a+b)%3 == 0 {
				m.Cut(a, b)
			}
		}
	}
	for a := range count {
		for b := range count {
			id := a*count + b + 1
			send(t, m, a, b, "", id)
			if (a+b)%3 == 0 {
				wantNoDeliver(t, m, id)
				wantNoNext(t, m)
				wantDrop(t, m, id, true)
			} else {
				wantNext(t, m, packet(id, a, b, ""))
			}
		}
	}
}

// held is a mesh beside a paper: each call is made to both.
type held struct {
	t testing.TB
	m *mesh.Mesh
	p *paper
}

func (h held) send(from, to int, body string) {
	id, e := h.m.Send(from, to, body)
	want, f := h.p.send(from, to, body)
	if id != want || e != f {
		h.t.Fatalf("P11.1: Send(%d, %d, ..) of %d bytes: %d, %d, want %d, %d", from, to, len(body), id, e, want, f)
	}
}

func (h held) double(id int) {
	got, e := h.m.Double(id)
	want, f := h.p.double(id)
	if got != want || e != f {
		h.t.Fatalf("P11.1: Double(%d): %d, %d, want %d, %d", id, got, e, want, f)
	}
}

func (h held) deliver(id int) {
	got, ok := h.m.Deliver(id)
	want, there := h.p.deliver(id)
	if got != want || ok != there {
		h.t.Fatalf("P11.2: Deliver(%d): %s, %t, want %s, %t", id, tell(got), ok, tell(want), there)
	}
}

func (h held) next() {
	got, ok := h.m.Next()
	want, there := h.p.next()
	if got != want || ok != there {
		h.t.Fatalf("P11.2: Next: %s, %t, want %s, %t", tell(got), ok, tell(want), there)
	}
}

func (h held) drop(id int) {
	if got, want := h.m.Drop(id), h.p.drop(id); got != want {
		h.t.Fatalf("P11.3: Drop(%d): %t, want %t", id, got, want)
	}
}

func (h held) cut(a, b int) {
	h.m.Cut(a, b)
	h.p.cut(a, b)
}

func (h held) join(a, b int) {
	h.m.Join(a, b)
	h.p.join(a, b)
}

func (h held) look() {
	h.t.Helper()
	wantFlight(h.t, h.m, h.p.flight()...)
	if h.t.Failed() {
		h.t.FailNow()
	}
}

// text is up to most bytes by chance.
func text(r *rand.Rand, most int) string {
	b := make([]byte, r.Intn(most+1))
	r.Read(b)
	return string(b)
}

// act is a call by chance, right or wrong, with the numbers of a few nodes.
func (h held) act(r *rand.Rand, nodes []int, long string) {
	node := func() int { return nodes[r.Intn(len(nodes))] }
	id := func() int {
		if r.Intn(25) == 0 {
			return noIds[r.Intn(len(noIds))]
		}
		return len(h.p.packets) + 2 - r.Intn(min(len(h.p.packets), 40)+3)
	}
	switch r.Intn(20) {
	case 0, 1, 2:
		h.deliver(id())
	case 3, 4:
		h.next()
	case 5, 6:
		h.drop(id())
	case 7, 8:
		h.double(id())
	case 9, 10:
		h.cut(node(), node())
	case 11, 12:
		h.join(node(), node())
	case 13:
		h.send(node(), node(), long[r.Intn(2):])
	default:
		h.send(node(), node(), text(r, 4))
	}
}

func TestScripts(t *testing.T) {
	long := strings.Repeat("l", api.MaxText+1)
	for seed := range int64(400) {
		r := rand.New(rand.NewSource(seed))
		h := held{t, mesh.New(), &paper{}}
		nodes := []int{numbers[r.Intn(len(numbers))]}
		for range r.Intn(4) {
			nodes = append(nodes, numbers[r.Intn(len(numbers))])
		}
		for range 200 {
			h.act(r, nodes, long)
			h.look()
		}
	}
}

// As TestScripts, where as many are in flight as can be, or a few less.
func TestScriptsNearTheLimit(t *testing.T) {
	long := strings.Repeat("l", api.MaxText+1)
	for seed := range int64(6) {
		r := rand.New(rand.NewSource(seed))
		h := held{t, mesh.New(), &paper{}}
		nodes := []int{1, 2, 3}
		for range 1500 {
			h.act(r, nodes, long)
			for r.Intn(3) == 0 || h.p.count() < api.MaxFlight-3 {
				h.send(nodes[r.Intn(3)], nodes[r.Intn(3)], "")
			}
			if r.Intn(10) == 0 {
				h.look()
			}
		}
		h.look()
	}
}

func TestMeshesAreApart(t *testing.T) {
	a, b := mesh.New(), mesh.New()
	send(t, a, 1, 2, "a1", 1)
	send(t, a, 1, 2, "a2", 2)
	wantFlight(t, b)
	wantNone(t, b, 1, 2)
	wantNoNext(t, b)
	send(t, b, 1, 2, "b1", 1)
	a.Cut(1, 2)
	wantNoDeliver(t, a, 1)
	wantDeliver(t, b, packet(1, 1, 2, "b1"))
	wantFlight(t, a, packet(1, 1, 2, "a1"), packet(2, 1, 2, "a2"))
	b.Join(1, 2)
	wantNoNext(t, a)
	b.Cut(1, 2)
	a.Join(1, 2)
	send(t, b, 2, 1, "b2", 2)
	wantNoNext(t, b)
	wantNext(t, a, packet(1, 1, 2, "a1"))
	wantFlight(t, b, packet(2, 2, 1, "b2"))
	wantDrop(t, a, 2, true)
	wantFlight(t, b, packet(2, 2, 1, "b2"))
	fill(t, a, 3)
	send(t, b, 1, 2, "b3", 3)
	wantNoSend(t, a, 1, 2, "", api.ErrFull)
}

// spoil writes over a list, its spare room too.
func spoil(l []api.Packet) {
	l = l[:cap(l)]
	for i := range l {
		l[i] = packet(-1, -1, -1, "#")
	}
}

// An answer is new memory: whoever writes into it changes no mesh and no other answer, and what happens to a mesh changes no answer.
func TestFlightIsNew(t *testing.T) {
	m := mesh.New()
	var want []api.Packet
	for id := 1; id <= 9; id++ {
		p := packet(id, id, id+1, strconv.Itoa(id))
		send(t, m, p.From, p.To, p.Body, id)
		want = append(want, p)
	}
	first, second := m.Flight(), m.Flight()
	spoil(first)
	if !slices.Equal(second, want) {
		t.Errorf("rule 5: an answer was changed by way of another one: %s", tell(second...))
	}
	wantFlight(t, m, want...)
	wantDrop(t, m, 1, true)
	wantDeliver(t, m, want[4])
	wantNext(t, m, want[1])
	send(t, m, 7, 7, "new", 10)
	double(t, m, 9, 11)
	if !slices.Equal(second, want) {
		t.Errorf("rule 5: an answer was changed by way of the mesh: %s", tell(second...))
	}
	spoil(second)
	wantFlight(t, m, want[2], want[3], want[5], want[6], want[7], want[8], packet(10, 7, 7, "new"), packet(11, 9, 10, "9"))
}

// Room that a packet left isn't shared either.
func TestFlightIsNewBehindDrops(t *testing.T) {
	m := mesh.New()
	fill(t, m, 1)
	for id := 1; id <= api.MaxFlight; id++ {
		l := m.Flight()
		wantDrop(t, m, id, true)
		spoil(l)
		spoil(m.Flight())
		if rest := m.Flight(); len(rest) != api.MaxFlight-id {
			t.Fatalf("P11.3: %d packets in flight", len(rest))
		}
		wantNoDeliver(t, m, -1)
	}
	wantFlight(t, m)
	send(t, m, 1, 2, "x", api.MaxFlight+1)
	wantFlight(t, m, packet(api.MaxFlight+1, 1, 2, "x"))
}

// Calls that only look change nothing, nor do those that are refused.
func TestLookingChangesNothing(t *testing.T) {
	m := mesh.New()
	send(t, m, 1, 2, "x", 1)
	send(t, m, 2, 3, "y", 2)
	m.Cut(1, 2)
	for range 3 {
		wantFlight(t, m, packet(1, 1, 2, "x"), packet(2, 2, 3, "y"))
		wantNoSend(t, m, 2, 3, strings.Repeat("x", api.MaxText+1), api.ErrArg)
		wantNone(t, m, noIds...)
		wantNoDeliver(t, m, 1)
	}
	wantNext(t, m, packet(2, 2, 3, "y"))
	wantNoNext(t, m)
	send(t, m, 2, 3, "z", 3)
}

func TestNil(t *testing.T) {
	var m *mesh.Mesh
	for _, n := range numbers {
		wantNoSend(t, m, n, n, "x", api.ErrArg)
		wantNoSend(t, m, n, 1, "", api.ErrArg)
		m.Cut(n, 1)
		m.Cut(n, n)
		m.Join(n, 1)
	}
	wantNoSend(t, m, 1, 2, strings.Repeat("x", api.MaxText+1), api.ErrArg)
	wantNone(t, m, append([]int{1, 2}, noIds...)...)
	wantNoNext(t, m)
	wantFlight(t, m)
}
