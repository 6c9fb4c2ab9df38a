package group_test

import (
	"encoding/binary"
	"math"
	"math/rand"
	"slices"
	"strings"
	"testing"

	"matins/api"
)

// messages are of each kind, as nodes send them, and of none.
func messages() []api.Message {
	return []api.Message{
		{},
		{Kind: api.Ask, From: 2, To: 1, Term: 7, Index: 300, LogTerm: 6},
		{Kind: api.Grant, From: 1, To: 2, Term: 7, Yes: true},
		{Kind: api.Grant, From: 1, To: 2, Term: 7},
		{Kind: api.Push, From: 1, To: 2, Term: 300, Index: 4, LogTerm: 5, Commit: 6, Yes: true, Entries: []api.Entry{entry(7, "ab")}, Data: "c"},
		{Kind: api.Push, From: 3, To: 2, Term: 300, Index: 128, LogTerm: 127, Commit: 16384, Entries: []api.Entry{entry(127, ""), entry(128, "\x80\xff"), entry(300, strings.Repeat("d", 200))}},
		{Kind: api.Push, From: 3, To: 2, Term: 1},
		{Kind: api.Ack, From: 2, To: 1, Term: 1 << 40, Yes: true, Index: 1 << 40},
		{Kind: api.Ack, From: 2, To: 1, Term: 9, Index: 3},
		{Kind: api.Bundle, From: 1, To: 3, Term: 9, Index: 200, LogTerm: 8, Data: "\x05\xff\xff\xff\xff\x0f"},
		{Kind: api.Bundle, From: 1, To: 3, Term: 9, Index: 200, LogTerm: 8},
		{Kind: 77, From: math.MaxInt, To: math.MaxInt, Term: 1, Yes: true, Entries: []api.Entry{{}, {}}},
	}
}

// wantBack wants a message to have a wire, and the wire to be the message's.
func wantBack(t *testing.T, m api.Message) {
	t.Helper()
	body := wire(t, m)
	if body == "" {
		t.Errorf("P22.2: Wire(%.200v): none", m)
	}
	if got, err := unwire(t, body); err != api.OK || !sameMessage(got, m) {
		t.Errorf("P22.2: Unwire(%.200q): %.200v, %d, want %.200v", body, got, err, m)
	}
}

func wantNoWire(t *testing.T, m api.Message) {
	t.Helper()
	if body := wire(t, m); body != "" {
		t.Errorf("P22.2: Wire(%.200v): %.200q", m, body)
	}
}

func wantNoMessage(t *testing.T, body string) {
	t.Helper()
	got, err := unwire(t, body)
	if err != api.ErrBytes || !sameMessage(got, api.Message{}) {
		t.Errorf("P22.2: Unwire(%.200q): %.200v, %d, want %d", body, got, err, api.ErrBytes)
	}
}

// The fields in their order, without the paper's say.
func TestWireOfOne(t *testing.T) {
	want := "\x03\x01\x02\xac\x02\x04\x05\x06\x01\x02\x07\x02ab\x80\x01\x00\x01c"
	m := api.Message{Kind: api.Push, From: 1, To: 2, Term: 300, Index: 4, LogTerm: 5, Commit: 6, Yes: true, Entries: []api.Entry{entry(7, "ab"), entry(128, "")}, Data: "c"}
	if got := wire(t, m); got != want {
		t.Errorf("P22.2: %q, want %q", got, want)
	}
	wantBack(t, m)
	if got := wire(t, api.Message{}); got != strings.Repeat("\x00", 10) {
		t.Errorf("P22.2: %q", got)
	}
}

func TestWireOfEachKind(t *testing.T) {
	for _, m := range messages() {
		wantBack(t, m)
		for kind := range 9 {
			m.Kind = kind
			wantBack(t, m)
		}
	}
}

// inEach calls f with each message, and with n in each place of it where a number stands.
func inEach(n int64, f func(m api.Message)) {
	for _, old := range messages() {
		places := []func(m *api.Message){
			func(m *api.Message) { m.Kind = int(n) }, func(m *api.Message) { m.From = int(n) }, func(m *api.Message) { m.To = int(n) },
			func(m *api.Message) { m.Term = n }, func(m *api.Message) { m.Index = n }, func(m *api.Message) { m.LogTerm = n }, func(m *api.Message) { m.Commit = n },
		}
		for i := range old.Entries {
			places = append(places, func(m *api.Message) { m.Entries[i].Term = n })
		}
		for _, put := range places {
			m := old
			m.Entries = slices.Clone(old.Entries)
			put(&m)
			f(m)
		}
	}
}

func TestWireOfNumbers(t *testing.T) {
	for _, n := range []int64{0, 1, 127, 128, 129, 16383, 16384, 1 << 21, 1 << 35, 1<<40 + 1, 1<<56 - 1, 1 << 56, 1 << 62, math.MaxInt64 - 1, math.MaxInt64} {
		inEach(n, func(m api.Message) { wantBack(t, m) })
	}
	for _, n := range []int64{-1, -2, -128, -1 << 32, math.MinInt64 + 1, math.MinInt64} {
		inEach(n, func(m api.Message) { wantNoWire(t, m) })
	}
}

func TestWireOfTexts(t *testing.T) {
	for _, size := range []int{0, 1, 127, 128, api.MaxData + 1, api.MaxSnap + 1, api.MaxText - 1, api.MaxText} {
		data := strings.Repeat("\xfe", size)
		wantBack(t, api.Message{Kind: api.Bundle, Data: data})
		wantBack(t, api.Message{Kind: api.Push, Entries: []api.Entry{entry(1, data)}})
		wantBack(t, api.Message{Kind: api.Push, Entries: []api.Entry{entry(1, "a"), entry(1, data), entry(2, data)}, Data: data})
	}
	for _, size := range []int{api.MaxText + 1, api.MaxText + 2, 2 * api.MaxText, 1 << 20} {
		data := strings.Repeat("\xfe", size)
		wantNoWire(t, api.Message{Kind: api.Bundle, Data: data})
		wantNoWire(t, api.Message{Kind: api.Push, Entries: []api.Entry{entry(1, data)}})
		wantNoWire(t, api.Message{Kind: api.Push, Entries: []api.Entry{entry(1, "a"), entry(1, "b"), entry(2, data)}, Data: "d"})
		ahead := string(binary.AppendUvarint(nil, uint64(size)))
		wantNoMessage(t, strings.Repeat("\x00", 9)+ahead+data)
		wantNoMessage(t, strings.Repeat("\x00", 8)+"\x01\x01"+ahead+data+"\x00")
	}
}

func TestWireOfManyEntries(t *testing.T) {
	for _, many := range []int{1, 8, 9, 100, 126, 127} {
		for _, e := range []api.Entry{{}, entry(300, "data")} {
			wantBack(t, api.Message{Kind: api.Push, Entries: slices.Repeat([]api.Entry{e}, many)})
		}
	}
	for _, many := range []int{128, 129, 255, 256, 257, 4096, 1 << 16} {
		m := api.Message{Kind: api.Push, Entries: make([]api.Entry, many)}
		wantNoWire(t, m)
		body := strings.Repeat("\x00", 8) + string(binary.AppendUvarint(nil, uint64(many))) + strings.Repeat("\x00\x00", many) + "\x00"
		wantNoMessage(t, body)
	}
}

// A wire that ends too early, or with bytes too many, or of which a number says otherwise, is none.
func TestUnwireSpoilt(t *testing.T) {
	for _, m := range messages() {
		body := wire(t, m)
		for cut := range body {
			wantNoMessage(t, body[:cut])
		}
		for _, more := range []string{"\x00", "\x01", "\x7f", "\x80", "\xff", "\x00\x00", body} {
			wantNoMessage(t, body+more)
		}
		for i := range body {
			for _, b := range []byte{0, 1, 2, 3, 126, 127, 128, 129, 255, body[i] + 1, body[i] - 1, body[i] ^ 128} {
				unwire(t, body[:i]+string([]byte{b})+body[i+1:])
			}
			unwire(t, body[:i]+body[i+1:])
			unwire(t, body[:i]+"\x80"+body[i:])
		}
	}
}

func TestUnwireYes(t *testing.T) {
	for _, yes := range []string{"\x02", "\x03", "\x7f", "\x80\x01", "\x81\x01", "\x80\x80\x01", "\xff\xff\xff\xff\xff\xff\xff\xff\x7f", "\x80\x00", "\x81\x00"} {
		for _, behind := range []string{"\x00\x00", "\x01\x00\x00\x00", "\x00\x01a"} {
			wantNoMessage(t, strings.Repeat("\x01", 7)+yes+behind)
		}
	}
	for _, yes := range []string{"\x00", "\x01"} {
		m, err := unwire(t, strings.Repeat("\x01", 7)+yes+"\x00\x00")
		if err != api.OK || m.Yes != (yes == "\x01") {
			t.Errorf("P22.2: Yes %q: %+v, %d", yes, m, err)
		}
	}
}

// A number of entries that isn't how many there are, or isn't as short as it can be.
func TestUnwireCounts(t *testing.T) {
	ahead := strings.Repeat("\x01", 8)
	for has := range 5 {
		for says := range 128 {
			body := ahead + string(rune(says)) + strings.Repeat("\x05\x02ab", has) + "\x02cd"
			if says == has {
				if m, err := unwire(t, body); err != api.OK || len(m.Entries) != has {
					t.Errorf("P22.2: %d entries: %+v, %d", has, m, err)
				}
				continue
			}
			wantNoMessage(t, body)
		}
	}
	for _, says := range []string{"\x80\x00", "\x81\x00", "\x81\x80\x00", "\x80\x01", "\xff\x01", "\xff\xff\xff\xff\xff\xff\xff\xff\xff\x01"} {
		wantNoMessage(t, ahead+says+"\x00")
		wantNoMessage(t, ahead+says+"\x00\x00\x00")
	}
}

// Numbers that a Num doesn't take, in each place.
func TestUnwireNumbers(t *testing.T) {
	for _, bad := range []string{"\x80\x00", "\xff\x00", "\x81\x80\x00", "\x80\x80\x80\x80\x80\x80\x80\x80\x80\x01", "\xff\xff\xff\xff\xff\xff\xff\xff\xff\x01", "\xff\xff\xff\xff\xff\xff\xff\xff\xff\x02", strings.Repeat("\xff", 20) + "\x01"} {
		for place := range 10 {
			wantNoMessage(t, strings.Repeat("\x00", place)+bad+strings.Repeat("\x00", 9-place))
		}
		wantNoMessage(t, strings.Repeat("\x00", 8)+"\x01"+bad+"\x00\x00")
		wantNoMessage(t, strings.Repeat("\x00", 8)+"\x01\x00"+bad+"\x00")
	}
	wantNoMessage(t, strings.Repeat("\x80", 1<<16))
}

func TestUnwireByChance(t *testing.T) {
	c := rand.New(rand.NewSource(222))
	right := 0
	for range 60000 {
		b := make([]byte, 8+c.Intn(14))
		for i := range b {
			switch c.Intn(4) {
			case 0:
				b[i] = byte(c.Intn(256))
			default:
				b[i] = byte(c.Intn(3))
			}
		}
		m, err := unwire(t, string(b))
		if err != api.OK {
			continue
		}
		right++
		if wire(t, m) != string(b) {
			t.Errorf("P22.2: %q is not the wire of %+v", b, m)
		}
	}
	if right < 500 {
		t.Errorf("%d wires alone", right)
	}
}
