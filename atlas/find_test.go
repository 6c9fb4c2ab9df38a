package atlas_test

import (
	"math/rand"
	"testing"

	"matins/api"
)

func wantFind(t *testing.T, a api.Atlas, key string, want api.Span) {
	t.Helper()
	if x := find(t, a, key); !x.same(answer{span: want, ok: true}) {
		t.Errorf("P19.2: Find(%s, %q): %s, want %+v", told(a), key, x.told(), want)
	}
}

func noFind(t *testing.T, a api.Atlas, key string) {
	t.Helper()
	if x := find(t, a, key); !x.same(answer{}) {
		t.Errorf("P19.2: Find(%s, %.30q): %s", told(a), key, x.told())
	}
}

func TestFindOneSpan(t *testing.T) {
	a := api.Atlas{Groups: 2, Last: 3, Spans: []api.Span{{Shard: 3, Epoch: 8, Group: 2}}}
	for _, key := range []string{"-", ".", "0", "9", "a", "a-", "m", "z", "--", "zzzzzzzzzzzzzzzz", "-...............", "0123456789.-abcd"} {
		wantFind(t, a, key, a.Spans[0])
	}
	for _, key := range noNames {
		noFind(t, a, key)
	}
}

// At both ends of each span, and just below and above them.
func TestFindEnds(t *testing.T) {
	a := three()
	for i, keys := range [][]string{
		{"-", "--", ".", "0", "9", "a", "g", "gz", "gzzzzzzzzzzzzzzz"},
		{"h", "h-", "h.", "h0", "ha", "i", "o", "oz", "ozzzzzzzzzzzzzzz"},
		{"p", "p-", "p.", "pa", "q", "z", "zzzzzzzzzzzzzzzz"},
	} {
		for _, key := range keys {
			wantFind(t, a, key, a.Spans[i])
			for _, s := range stages { // whatever plan there is
				wantFind(t, s.plan(), key, s.plan().Spans[i])
			}
		}
	}
	for _, key := range append([]string{"H", "h ", "h_", "hH", "P", "p\x00"}, noNames...) {
		noFind(t, a, key)
	}
}

func TestFindMany(t *testing.T) {
	for n := 1; n <= api.MaxShards; n++ {
		a := many(n)
		for i, s := range a.Spans {
			if s.From != "" {
				wantFind(t, a, s.From, s)
				wantFind(t, a, s.From+"-", s)
				wantFind(t, a, below(s.From), a.Spans[i-1])
			}
			if s.To != "" {
				wantFind(t, a, below(s.To), s)
				wantFind(t, a, s.To, a.Spans[i+1])
			}
		}
		wantFind(t, a, "-", a.Spans[0])
		wantFind(t, a, "zzzzzzzzzzzzzzzz", a.Spans[n-1])
		noFind(t, a, "")
	}
}

// Where names meet that are one the beginning of the other, and where a span has room for one name alone.
func TestFindNear(t *testing.T) {
	a := api.Atlas{Groups: 1, Last: 5, Spans: []api.Span{spanOf("", "a", 1, 1, 1), spanOf("a", "a-", 2, 1, 1), spanOf("a-", "aa", 3, 1, 1), spanOf("aa", "b", 4, 1, 1), spanOf("b", "", 5, 1, 1)}}
	for key, i := range map[string]int{"-": 0, "9": 0, "9zzzzzzzzzzzzzzz": 0, "a": 1, "a-": 2, "a--": 2, "a.": 2, "a9": 2, "a9z": 2, "aa": 3, "aa-": 3, "ab": 3, "az": 3, "b": 4, "b-": 4, "c": 4} {
		wantFind(t, a, key, a.Spans[i])
	}
	first := api.Atlas{Groups: 1, Last: 2, Spans: []api.Span{spanOf("", "-", 1, 1, 1), spanOf("-", "", 2, 1, 1)}} // the first one has no name
	for _, key := range []string{"-", "--", "a", "z"} {
		wantFind(t, first, key, first.Spans[1])
	}
}

func TestFindByChance(t *testing.T) {
	r := rand.New(rand.NewSource(1))
	for range 3000 {
		a := many(1 + r.Intn(api.MaxShards))
		key := make([]byte, 1+r.Intn(4))
		for i := range key {
			key[i] = "n0123456789az-.N"[r.Intn(16)]
		}
		x := find(t, a, string(key))
		if x.ok != paperName(string(key)) || x.ok && !paperIn(x.span, string(key)) {
			t.Errorf("P19.2: Find(%s, %q): %s", told(a), key, x.told())
		}
	}
}
