package group

import (
	"slices"

	"matins/api"
	"matins/code"
)

const (
	numbers = 9   // the fields ahead of the entries; the last of them says how many entries there are
	most    = 127 // entries of a wire: their number is one byte
)

// Wire: a message's bytes.
func Wire(m api.Message) string {
	if len(m.Entries) > most {
		return ""
	}
	list := []api.Field{
		num(int64(m.Kind)), num(int64(m.From)), num(int64(m.To)), num(m.Term), num(m.Index),
		num(m.LogTerm), num(m.Commit), num(yes(m.Yes)), num(int64(len(m.Entries))),
	}
	for _, e := range m.Entries {
		list = append(list, num(e.Term), text(e.Data))
	}
	b, _ := code.Encode(append(list, text(m.Data))) // no bytes, if a field can't be written
	return string(b)
}

// Unwire: the message of some bytes. ErrBytes.
func Unwire(body string) (api.Message, api.Errno) {
	kinds, ok := fields(body)
	if !ok {
		return api.Message{}, api.ErrBytes
	}
	list, err := code.Decode(kinds, []byte(body))
	if err != api.OK || list[7].N > 1 {
		return api.Message{}, api.ErrBytes
	}
	m := api.Message{
		Kind: int(list[0].N), From: int(list[1].N), To: int(list[2].N), Term: list[3].N, Index: list[4].N,
		LogTerm: list[5].N, Commit: list[6].N, Yes: list[7].N == 1, Data: list[len(list)-1].S,
	}
	for i := numbers; i < len(list)-1; i += 2 {
		m.Entries = append(m.Entries, api.Entry{Term: list[i].N, Data: list[i+1].S})
	}
	return m, api.OK
}

// fields are the kinds of the fields that a wire has, by the number of entries that it says; false: it says none that a wire may have.
func fields(body string) ([]int, bool) {
	count, ok := entries(body)
	if !ok {
		return nil, false
	}
	kinds := slices.Repeat([]int{api.Num}, numbers)
	kinds = append(kinds, slices.Repeat([]int{api.Num, api.Text}, count)...)
	return append(kinds, api.Text), true
}

// entries is the number of entries that a body says: the byte behind the numbers ahead of it, each of which ends with a byte up to 127.
func entries(body string) (int, bool) {
	ends := 0
	for i := range len(body) {
		if ends == numbers-1 {
			return int(body[i]), body[i] <= most
		}
		if body[i] <= most {
			ends++
		}
	}
	return 0, false
}

func num(n int64) api.Field { return api.Field{Kind: api.Num, N: n} }

func text(s string) api.Field { return api.Field{Kind: api.Text, S: s} }

func yes(b bool) int64 {
	if b {
		return 1
	}
	return 0
}
