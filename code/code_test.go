package code_test

import (
	"bytes"
	"encoding/binary"
	"hash/crc32"
	"math"
	"math/big"
	"math/rand"
	"slices"
	"strings"
	"testing"

	"matins/api"
	"matins/code"
)

func num(n int64) api.Field     { return api.Field{Kind: api.Num, N: n} }
func integer(n int64) api.Field { return api.Field{Kind: api.Int, N: n} }
func text(s string) api.Field   { return api.Field{Kind: api.Text, S: s} }

// wrongKinds are none of Num, Int and Text.
var wrongKinds = []int{0, 4, 9, -1, -2, -3, 1 << 8, 1<<8 + 1, 1<<32 + 1, math.MinInt, math.MaxInt}

// plainNumber is a number's bytes as the chapter's section 'Values' tells them, of numbers of any size.
func plainNumber(n *big.Int) []byte {
	var b []byte
	rest, low := new(big.Int).Set(n), new(big.Int)
	for {
		rest.DivMod(rest, big.NewInt(128), low)
		x := byte(low.Int64())
		if rest.Sign() == 0 {
			return append(b, x)
		}
		b = append(b, x|0x80)
	}
}

// plainField is a field's bytes, reckoned by plainNumber.
func plainField(f api.Field) []byte {
	n := big.NewInt(f.N)
	switch {
	case f.Kind == api.Text:
		return append(plainNumber(big.NewInt(int64(len(f.S)))), f.S...)
	case f.Kind == api.Int && f.N >= 0:
		n.Mul(n, big.NewInt(2))
	case f.Kind == api.Int:
		n.Mul(n, big.NewInt(-2)).Sub(n, big.NewInt(1))
	}
	return plainNumber(n)
}

func plainFrame(b []byte) []byte {
	f := append(plainNumber(big.NewInt(int64(len(b)))), b...)
	return binary.LittleEndian.AppendUint32(f, crc32.ChecksumIEEE(f))
}

// numbers lie at 0, at each place where one byte more is needed and beside it, and at the end of int64.
func numbers() []int64 {
	all := []int64{0, 1, 2, 63, 300, 1 << 31, 1<<32 - 1, math.MaxInt64 - 1, math.MaxInt64}
	for bits := 6; bits < 63; bits++ {
		n := int64(1) << bits
		all = append(all, n-1, n, n+1)
	}
	return all
}

func mixed(n int, seed int64) []byte {
	b := make([]byte, n)
	rand.New(rand.NewSource(seed)).Read(b)
	return b
}

// texts are of all lengths at which their number's bytes change, and of all bytes.
func texts() []string {
	all := []string{"", "a", "ab", "\x00", "\x80", "\xff\xff", "\n", "é"}
	for i, n := range []int{3, 126, 127, 128, 129, 255, 256, 300, 16383, 16384, 16385, api.MaxText - 1, api.MaxText} {
		all = append(all, string(mixed(n, int64(i))), strings.Repeat("\xff", n))
	}
	return all
}

// fields are of each kind, one by one.
func fields() []api.Field {
	var all []api.Field
	for _, n := range numbers() {
		all = append(all, num(n), integer(n), integer(-n), integer(-n-1))
	}
	for _, s := range texts() {
		all = append(all, text(s))
	}
	return all
}

func kindsOf(list []api.Field) []int {
	var kinds []int
	for _, f := range list {
		kinds = append(kinds, f.Kind)
	}
	return kinds
}

// encode is of fields that must be taken.
func encode(t *testing.T, list ...api.Field) []byte {
	t.Helper()
	b, err := code.Encode(list)
	if err != api.OK {
		t.Fatalf("P3.1: Encode: %d", err)
	}
	return b
}

// wantDecode holds what Decode answers against an error, or against fields.
func wantDecode(t *testing.T, kinds []int, b []byte, want []api.Field, err api.Errno) {
	t.Helper()
	list, got := code.Decode(kinds, b)
	if got != err || !slices.Equal(list, want) {
		t.Errorf("P3.2: Decode(%v, % .20x): %d fields, %d; want %d fields, %d", kinds, b, len(list), got, len(want), err)
	}
}

func wantUnframe(t *testing.T, b []byte, want []byte, size int, err api.Errno) {
	t.Helper()
	inner, n, got := code.Unframe(b)
	if got != err || n != size || !bytes.Equal(inner, want) {
		t.Errorf("P3.3: Unframe(% .20x): % .20x, %d, %d; want % .20x, %d, %d", b, inner, n, got, want, size, err)
	}
}

func TestExamples(t *testing.T) {
	for _, x := range []struct {
		list []api.Field
		want string
	}{{[]api.Field{num(300)}, "\xac\x02"}, {[]api.Field{integer(-1)}, "\x01"}, {[]api.Field{integer(1)}, "\x02"}, {[]api.Field{text("ab")}, "\x02ab"}, {nil, ""}, {[]api.Field{}, ""}} {
		if b := encode(t, x.list...); string(b) != x.want {
			t.Errorf("P3.1: Encode(%v): % x", x.list, b)
		}
	}
	if b, err := code.Encode([]api.Field{num(-1)}); err != api.ErrArg || len(b) != 0 {
		t.Errorf("P3.1: Encode of Num -1: % x, %d", b, err)
	}
	wantDecode(t, []int{api.Num}, []byte{0xac, 2}, []api.Field{num(300)}, api.OK)
	wantDecode(t, []int{api.Num}, []byte{0xac}, nil, api.ErrEnd)
	wantDecode(t, []int{api.Num}, []byte{0x80, 0}, nil, api.ErrBytes)
	wantDecode(t, []int{api.Num}, []byte{5, 0}, nil, api.ErrBytes)
	wantDecode(t, []int{api.Num, api.Text}, []byte{5}, nil, api.ErrEnd)
	wantDecode(t, []int{9}, []byte{5}, nil, api.ErrArg)
	wantDecode(t, []int{api.Text}, []byte{0x81, 0x80, 4}, nil, api.ErrBytes)
	f, err := code.Frame([]byte("a"))
	if err != api.OK || len(f) != 6 || f[0] != 1 || f[1] != 'a' {
		t.Errorf("P3.3: Frame of \"a\": % x, %d", f, err)
	}
	wantUnframe(t, append(f, "bytes behind"...), []byte("a"), 6, api.OK)
	wantUnframe(t, nil, nil, 0, api.ErrEnd)
}

func TestEncodeOneField(t *testing.T) {
	for _, f := range fields() {
		if b, want := encode(t, f), plainField(f); !bytes.Equal(b, want) {
			t.Errorf("P3.1: kind %d, %d, %.10q: % .20x, want % .20x", f.Kind, f.N, f.S, b, want)
		}
	}
}

// A number needs one byte more at each power of 128.
func TestEncodeIsShort(t *testing.T) {
	for size := 1; size <= 8; size++ {
		end := int64(1) << (7 * size)
		for _, x := range []struct {
			f    api.Field
			want int
		}{{num(end - 1), size}, {num(end), size + 1}, {integer(end/2 - 1), size}, {integer(end / 2), size + 1}, {integer(-end / 2), size}, {integer(-end/2 - 1), size + 1}} {
			if b := encode(t, x.f); len(b) != x.want {
				t.Errorf("P3.1: %v: % x, want %d bytes", x.f, b, x.want)
			}
		}
	}
	for _, x := range []struct {
		f    api.Field
		want string
	}{
		{num(0), "\x00"}, {integer(0), "\x00"}, {text(""), "\x00"},
		{num(math.MaxInt64), "\xff\xff\xff\xff\xff\xff\xff\xff\x7f"},
		{integer(math.MaxInt64), "\xfe\xff\xff\xff\xff\xff\xff\xff\xff\x01"},
		{integer(math.MinInt64), "\xff\xff\xff\xff\xff\xff\xff\xff\xff\x01"},
	} {
		if b := encode(t, x.f); string(b) != x.want {
			t.Errorf("P3.1: %v: % x, want % x", x.f, b, x.want)
		}
	}
}

func TestEncodeManyFields(t *testing.T) {
	all := fields()
	var want []byte
	for _, f := range all {
		want = append(want, plainField(f)...)
	}
	if b := encode(t, all...); !bytes.Equal(b, want) {
		t.Error("P3.1: many fields aren't one behind the other")
	}
	if b := encode(t, text("a"), num(1), integer(1), text("bc"), text("")); string(b) != "\x01a\x01\x02\x02bc\x00" {
		t.Errorf("P3.1: % x", b)
	}
}

// What stands in the field that a kind doesn't use isn't even looked at.
func TestWhatPlaysNoPart(t *testing.T) {
	long := strings.Repeat("a", api.MaxText+1)
	for _, x := range []struct{ f, plain api.Field }{
		{api.Field{Kind: api.Num, N: 300, S: "ab"}, num(300)},
		{api.Field{Kind: api.Num, N: 300, S: long}, num(300)},
		{api.Field{Kind: api.Int, N: -7, S: "ab"}, integer(-7)},
		{api.Field{Kind: api.Int, N: -7, S: long}, integer(-7)},
		{api.Field{Kind: api.Text, N: 5, S: "ab"}, text("ab")},
		{api.Field{Kind: api.Text, N: -1, S: "ab"}, text("ab")},
		{api.Field{Kind: api.Text, N: math.MinInt64, S: "ab"}, text("ab")},
	} {
		b := encode(t, x.f)
		if !bytes.Equal(b, plainField(x.plain)) {
			t.Errorf("P3.1: %d %d: % x", x.f.Kind, x.f.N, b)
		}
		wantDecode(t, []int{x.f.Kind}, b, []api.Field{x.plain}, api.OK)
	}
}

func TestEncodeRefuses(t *testing.T) {
	wrong := []api.Field{num(-1), num(-2), num(math.MinInt64), text(strings.Repeat("a", api.MaxText+1)), text(strings.Repeat("a", 1<<20))}
	for _, kind := range wrongKinds {
		wrong = append(wrong, api.Field{Kind: kind}, api.Field{Kind: kind, N: 1, S: "a"})
	}
	good := []api.Field{num(1), text("a"), integer(-1)}
	for _, f := range wrong {
		for i := range len(good) + 1 {
			b, err := code.Encode(slices.Insert(slices.Clone(good), i, f))
			if err != api.ErrArg || len(b) != 0 {
				t.Errorf("P3.1: kind %d, %d, %d bytes at %d: %d bytes, %d", f.Kind, f.N, len(f.S), i, len(b), err)
			}
		}
	}
}

func TestDecodeWhatWasEncoded(t *testing.T) {
	all := fields()
	for _, f := range all {
		wantDecode(t, []int{f.Kind}, encode(t, f), []api.Field{f}, api.OK)
	}
	wantDecode(t, kindsOf(all), encode(t, all...), all, api.OK)
	wantDecode(t, nil, nil, nil, api.OK)
	wantDecode(t, []int{}, []byte{}, nil, api.OK)
}

func TestDecodeEndsAtEveryPlace(t *testing.T) {
	lists := [][]api.Field{{num(0), integer(0), text("")}, {num(300), integer(-300), text("abc"), num(math.MaxInt64), integer(math.MinInt64)}, {text(string(mixed(200, 3))), text("")}}
	for _, f := range fields() {
		if len(f.S) < 1000 {
			lists = append(lists, []api.Field{f})
		}
	}
	for _, list := range lists {
		b := encode(t, list...)
		for i := range b {
			wantDecode(t, kindsOf(list), b[:i], nil, api.ErrEnd)
			wantDecode(t, kindsOf(list), bytes.Clone(b[:i]), nil, api.ErrEnd)
		}
	}
	long := encode(t, text(strings.Repeat("a", api.MaxText)))
	for _, i := range []int{0, 1, 2, 3, 4, 1000, len(long) - 1} {
		wantDecode(t, []int{api.Text}, long[:i], nil, api.ErrEnd)
	}
}

func TestDecodeBytesLeft(t *testing.T) {
	wantDecode(t, nil, []byte{0}, nil, api.ErrBytes)
	wantDecode(t, []int{}, []byte("abc"), nil, api.ErrBytes)
	for _, f := range fields() {
		for _, left := range [][]byte{{0}, {1}, {0x80}, {0xff, 0xff}} {
			wantDecode(t, []int{f.Kind}, append(encode(t, f), left...), nil, api.ErrBytes)
		}
	}
}

// stretched is a number with one byte or more than it needs, which add nothing to it.
func stretched(b []byte, by int) []byte {
	b = bytes.Clone(b)
	b[len(b)-1] |= 0x80
	for range by - 1 {
		b = append(b, 0x80)
	}
	return append(b, 0)
}

func TestDecodeNumberNotShort(t *testing.T) {
	for _, n := range numbers() {
		for by := range 12 {
			b := stretched(plainNumber(big.NewInt(n)), by+1)
			wantDecode(t, []int{api.Num}, b, nil, api.ErrBytes)
			wantDecode(t, []int{api.Int}, b, nil, api.ErrBytes)
			wantDecode(t, []int{api.Text}, b, nil, api.ErrBytes)
			wantDecode(t, []int{api.Num, api.Num}, append([]byte{7}, b...), nil, api.ErrBytes)
		}
	}
	wantDecode(t, []int{api.Text}, []byte("\x82\x00ab"), nil, api.ErrBytes)
	wantDecode(t, []int{api.Text}, []byte("\x82\x00a"), nil, api.ErrBytes)
}

func TestDecodeNumberTooGreat(t *testing.T) {
	top := new(big.Int).Lsh(big.NewInt(1), 64)
	for _, d := range []int64{-2, -1, 0, 1, 127, 128} {
		n := new(big.Int).Add(top, big.NewInt(d))
		b := plainNumber(n)
		wantDecode(t, []int{api.Num}, b, nil, api.ErrBytes)
		wantDecode(t, []int{api.Text}, b, nil, api.ErrBytes)
		if d < 0 {
			half := int64(math.MaxInt64)
			if d == -1 {
				half = math.MinInt64
			}
			wantDecode(t, []int{api.Int}, b, []api.Field{integer(half)}, api.OK)
		} else {
			wantDecode(t, []int{api.Int}, b, nil, api.ErrBytes)
		}
	}
	for bits := 65; bits < 200; bits++ {
		n := new(big.Int).Lsh(big.NewInt(1), uint(bits))
		for _, kind := range []int{api.Num, api.Int, api.Text} {
			wantDecode(t, []int{kind}, plainNumber(n), nil, api.ErrBytes)
			wantDecode(t, []int{kind}, plainNumber(n.Add(n, big.NewInt(5))), nil, api.ErrBytes)
		}
	}
	for _, d := range []int64{0, 1, 2} {
		n := new(big.Int).Add(new(big.Int).Lsh(big.NewInt(1), 63), big.NewInt(d))
		wantDecode(t, []int{api.Num}, plainNumber(n), nil, api.ErrBytes)
	}
}

func TestDecodeTextTooLong(t *testing.T) {
	for _, n := range []int64{api.MaxText + 1, api.MaxText + 2, 1 << 17, 1 << 31, 1 << 32, 1<<32 + 1, math.MaxInt64} {
		b := plainNumber(big.NewInt(n))
		wantDecode(t, []int{api.Text}, b, nil, api.ErrBytes)
		wantDecode(t, []int{api.Text}, append(b, "ab"...), nil, api.ErrBytes)
		wantDecode(t, []int{api.Text, 9}, b, nil, api.ErrBytes)
	}
	whole := append(plainNumber(big.NewInt(api.MaxText+1)), make([]byte, api.MaxText+1)...)
	wantDecode(t, []int{api.Text}, whole, nil, api.ErrBytes)
}

// Numbers that go on to the end of the bytes never came to a last byte, so the end is what is told.
func TestDecodeNumberGoesOn(t *testing.T) {
	for n := range 30 {
		for _, x := range []byte{0x80, 0x81, 0xff} {
			b := bytes.Repeat([]byte{x}, n)
			for _, kind := range []int{api.Num, api.Int, api.Text} {
				wantDecode(t, []int{kind}, b, nil, api.ErrEnd)
			}
			wantUnframe(t, b, nil, 0, api.ErrEnd)
		}
	}
}

func TestDecodeWrongKinds(t *testing.T) {
	for _, kind := range wrongKinds {
		for _, b := range []string{"", "\x05", "\x80", "\x80\x00", "\x05\x00", "\x02ab"} {
			wantDecode(t, []int{kind}, []byte(b), nil, api.ErrArg)
			wantDecode(t, []int{kind, api.Num}, []byte(b), nil, api.ErrArg)
		}
	}
}

func TestDecodeFirstFault(t *testing.T) {
	for _, x := range []struct {
		kinds []int
		b     string
		want  api.Errno
	}{
		{[]int{api.Num, 9}, "", api.ErrEnd},
		{[]int{api.Num, 9}, "\xac", api.ErrEnd},
		{[]int{api.Num, 9}, "\x80\x00", api.ErrBytes},
		{[]int{api.Num, 9}, "\x05", api.ErrArg},
		{[]int{api.Num, 9}, "\x05\x80", api.ErrArg},
		{[]int{api.Num, 9}, "\x05\x80\x00", api.ErrArg},
		{[]int{9, api.Num}, "", api.ErrArg},
		{[]int{9, api.Num}, "\x80\x00", api.ErrArg},
		{[]int{api.Text, 9}, "\x03ab", api.ErrEnd},
		{[]int{api.Text, 9}, "\x02ab", api.ErrArg},
		{[]int{api.Text, 0}, "\x81\x80\x04", api.ErrBytes},
		{[]int{api.Num, api.Int, api.Text, 0}, "\x01\x01\x00", api.ErrArg},
		{[]int{api.Num, api.Num}, "\x80\x00", api.ErrBytes},
		{[]int{api.Num, api.Num}, "\x80\x00\x80", api.ErrBytes},
		{[]int{api.Num, api.Num}, "\x01\x80", api.ErrEnd},
		{[]int{api.Num, api.Num}, "\x01\x80\x00", api.ErrBytes},
		{[]int{api.Num, api.Num}, "\x01\x02\x00", api.ErrBytes},
		{[]int{api.Text, api.Num}, "\x02ab", api.ErrEnd},
		{[]int{api.Num, api.Num, api.Num}, "\x05\x00", api.ErrEnd},
	} {
		wantDecode(t, x.kinds, []byte(x.b), nil, x.want)
	}
}

// Each value has one way as bytes: whatever Decode takes, Encode writes again.
func TestOneWay(t *testing.T) {
	taken := 0
	chance := rand.New(rand.NewSource(4))
	pieces := [][]byte{{0}, {1}, {2}, {0x7f}, {0x80}, {0xff}, {0xac, 2}, {0x80, 0}, {3, 'a', 'b', 'c'}, {0x81, 0x80, 4}}
	for range 20000 {
		var kinds []int
		var b []byte
		for range chance.Intn(4) {
			kinds = append(kinds, 1+chance.Intn(3))
			b = append(b, pieces[chance.Intn(len(pieces))]...)
		}
		list, err := code.Decode(kinds, b)
		if err != api.OK {
			continue
		}
		taken++
		if again := encode(t, list...); !bytes.Equal(again, b) || !slices.Equal(kindsOf(list), kinds) {
			t.Fatalf("P3.2: Decode(%v, % x): %v, which is % x", kinds, b, list, again)
		}
	}
	if taken < 1000 {
		t.Errorf("only %d lists were taken: the test tries nothing", taken)
	}
}

func TestFrames(t *testing.T) {
	for _, s := range append(texts(), string(encode(t, num(3)))) {
		b := []byte(s)
		f, err := code.Frame(b)
		if want := plainFrame(b); err != api.OK || !bytes.Equal(f, want) {
			t.Errorf("P3.3: Frame of %d bytes: % .20x, %d, want % .20x", len(b), f, err, want)
			continue
		}
		wantUnframe(t, f, b, len(f), api.OK)
		for _, behind := range [][]byte{{0}, {0xff}, []byte("bytes behind"), f} {
			wantUnframe(t, append(bytes.Clone(f), behind...), b, len(f), api.OK)
		}
	}
	if f, err := code.Frame(nil); err != api.OK || !bytes.Equal(f, plainFrame(nil)) || len(f) != 5 {
		t.Errorf("P3.3: Frame of nothing: % x, %d", f, err)
	}
	f, _ := code.Frame([]byte("a"))
	if !bytes.Equal(f, binary.LittleEndian.AppendUint32([]byte{1, 'a'}, crc32.ChecksumIEEE([]byte{1, 'a'}))) {
		t.Errorf("P3.3: Frame of \"a\": % x", f)
	}
}

func TestFrameTooLong(t *testing.T) {
	for _, n := range []int{api.MaxText + 1, api.MaxText + 2, 1 << 20} {
		if f, err := code.Frame(make([]byte, n)); err != api.ErrArg || len(f) != 0 {
			t.Errorf("P3.3: Frame of %d bytes: %d bytes, %d", n, len(f), err)
		}
	}
}

func TestFrameCutAtEveryPlace(t *testing.T) {
	for _, s := range []string{"", "a", "\x80\x80", strings.Repeat("x", 127), strings.Repeat("x", 128), strings.Repeat("\xff", 300)} {
		f := plainFrame([]byte(s))
		for i := range f {
			wantUnframe(t, f[:i], nil, 0, api.ErrEnd)
			wantUnframe(t, bytes.Clone(f[:i]), nil, 0, api.ErrEnd)
		}
	}
	long := plainFrame(make([]byte, api.MaxText))
	for _, i := range []int{0, 1, 2, 3, 4, 5, 1000, len(long) - 5, len(long) - 4, len(long) - 3, len(long) - 1} {
		wantUnframe(t, long[:i], nil, 0, api.ErrEnd)
	}
}

// A turned bit of the bytes or of the sum leaves the frame's length as it is, so the sum must tell it.
func TestFrameWithABitTurned(t *testing.T) {
	for _, s := range []string{"", "a", "abc", strings.Repeat("x", 200)} {
		f := plainFrame([]byte(s))
		front := len(f) - len(s) - 4
		for i := front; i < len(f); i++ {
			for bit := range 8 {
				other := append(bytes.Clone(f), "behind"...)
				other[i] ^= 1 << bit
				wantUnframe(t, other, nil, 0, api.ErrSum)
			}
		}
	}
}

// A turned bit of the number makes another number, by which the fault is told.
func TestFrameWithItsNumberTurned(t *testing.T) {
	f := plainFrame([]byte("abcd"))
	for _, x := range []struct {
		first byte
		want  api.Errno
	}{{4 ^ 1, api.ErrEnd}, {4 ^ 2, api.ErrEnd}, {0, api.ErrSum}, {4 ^ 8, api.ErrEnd}, {4 ^ 16, api.ErrEnd}, {4 ^ 32, api.ErrEnd}, {4 ^ 64, api.ErrEnd}, {4 ^ 128, api.ErrEnd}} {
		other := bytes.Clone(f)
		other[0] = x.first
		wantUnframe(t, other, nil, 0, x.want)
		wantUnframe(t, append(other, make([]byte, 1<<15)...), nil, 0, api.ErrSum)
	}
}

// The sum is over the number too: bytes whose own sum stands behind them are no frame.
func TestFrameSumOverTheNumber(t *testing.T) {
	b := []byte("abc")
	wantUnframe(t, binary.LittleEndian.AppendUint32([]byte("\x03abc"), crc32.ChecksumIEEE(b)), nil, 0, api.ErrSum)
	wantUnframe(t, binary.BigEndian.AppendUint32([]byte("\x03abc"), crc32.ChecksumIEEE([]byte("\x03abc"))), nil, 0, api.ErrSum)
	wantUnframe(t, binary.LittleEndian.AppendUint32([]byte("\x03abc"), crc32.ChecksumIEEE([]byte("\x03abc"))), b, 8, api.OK)
}

func TestFrameNumberNotShort(t *testing.T) {
	for _, n := range []int64{0, 1, 3, 127, 128, 300, api.MaxText, api.MaxText + 1} {
		for by := range 12 {
			front := stretched(plainNumber(big.NewInt(n)), by+1)
			wantUnframe(t, front, nil, 0, api.ErrBytes)
			whole := append(front, make([]byte, n)...)
			wantUnframe(t, binary.LittleEndian.AppendUint32(whole, crc32.ChecksumIEEE(whole)), nil, 0, api.ErrBytes)
		}
	}
}

func TestFrameNumberTooGreat(t *testing.T) {
	for _, n := range []int64{api.MaxText + 1, api.MaxText + 2, 1 << 32, 1<<32 + 1, math.MaxInt64} {
		wantUnframe(t, plainNumber(big.NewInt(n)), nil, 0, api.ErrBytes)
		wantUnframe(t, append(plainNumber(big.NewInt(n)), "abcdef"...), nil, 0, api.ErrBytes)
	}
	wantUnframe(t, plainFrame(make([]byte, api.MaxText+1)), nil, 0, api.ErrBytes)
	for bits := 63; bits < 140; bits++ {
		n := new(big.Int).Lsh(big.NewInt(1), uint(bits))
		wantUnframe(t, plainNumber(n), nil, 0, api.ErrBytes)
		wantUnframe(t, append(plainNumber(n.Add(n, big.NewInt(1))), "aabcdef"...), nil, 0, api.ErrBytes)
	}
}

// The lists that are handed in are pieces of greater ones, so that their spare room is looked at too.
func TestArgumentsAreNotChanged(t *testing.T) {
	list := []api.Field{num(300), {Kind: api.Int, N: -1, S: "x"}, {Kind: api.Text, N: 7, S: "ab"}, num(-1), text("spare")}
	listWas := slices.Clone(list)
	code.Encode(list[:3])
	code.Encode(list[:4])
	if !slices.Equal(list, listWas) {
		t.Errorf("rule 5: fields: %v", list)
	}
	kinds := []int{api.Num, api.Int, api.Text, 9, 9}
	kindsWas := slices.Clone(kinds)
	b := append(encode(t, num(300), integer(-1), text("ab")), "spare room"...)
	bWas := bytes.Clone(b)
	code.Decode(kinds[:3], b[:6])
	code.Decode(kinds[:4], b[:6])
	code.Decode(kinds[:2], b)
	code.Frame(b[:6])
	code.Unframe(b[:6])
	f := append(plainFrame([]byte("abc")), "spare room"...)
	fWas := bytes.Clone(f)
	code.Unframe(f[:8])
	if !slices.Equal(kinds, kindsWas) || !bytes.Equal(b, bWas) || !bytes.Equal(f, fWas) {
		t.Errorf("rule 5: %v, %q, %q", kinds, b, f)
	}
}

func TestAnswersAreNewMemory(t *testing.T) {
	b := encode(t, text("abc"), num(1))
	list, _ := code.Decode([]int{api.Text, api.Num}, b)
	clear(b)
	if want := []api.Field{text("abc"), num(1)}; !slices.Equal(list, want) {
		t.Errorf("rule 5: Decode keeps b: %v", list)
	}
	given := []byte("abc")
	f, _ := code.Frame(given)
	clear(given)
	if !bytes.Equal(f, plainFrame([]byte("abc"))) {
		t.Errorf("rule 5: Frame keeps b: % x", f)
	}
	inner, size, _ := code.Unframe(f)
	other, _, _ := code.Unframe(f)
	clear(inner[:cap(inner)])
	if !bytes.Equal(f, plainFrame([]byte("abc"))) || string(other) != "abc" || size != len(f) {
		t.Errorf("rule 5: Unframe shares: % x, %q", f, other)
	}
	clear(f)
	if string(other) != "abc" {
		t.Errorf("rule 5: Unframe keeps b: %q", other)
	}
}

func TestAnswersHangOnArgumentsAlone(t *testing.T) {
	for range 3 {
		if b := encode(t, num(300), text("ab")); string(b) != "\xac\x02\x02ab" {
			t.Errorf("rule 6: % x", b)
		}
		code.Encode([]api.Field{num(-1)})
		code.Decode([]int{9}, nil)
		code.Frame(make([]byte, api.MaxText+1))
		code.Unframe(nil)
		wantUnframe(t, plainFrame([]byte("ab")), []byte("ab"), 7, api.OK)
	}
}

func FuzzDecode(f *testing.F) {
	f.Add([]byte{1, 2, 3}, []byte("\xac\x02\x01\x02ab"))
	f.Add([]byte{1}, []byte("\xff\xff\xff\xff\xff\xff\xff\xff\xff\x02"))
	f.Add([]byte{3, 9}, []byte("\x81\x80\x04"))
	f.Fuzz(func(t *testing.T, k, b []byte) {
		var kinds []int
		for _, x := range k {
			kinds = append(kinds, int(x))
		}
		list, err := code.Decode(kinds, b)
		if err == api.OK && !bytes.Equal(encode(t, list...), b) {
			t.Errorf("P3.2: Decode(%v, % x): %v", kinds, b, list)
		}
		if err != api.OK && len(list) != 0 {
			t.Errorf("rule 2: %v beside %d", list, err)
		}
		inner, size, err := code.Unframe(b)
		if err == api.OK && !bytes.Equal(plainFrame(inner), b[:size]) {
			t.Errorf("P3.3: Unframe(% x): % x, %d", b, inner, size)
		}
	})
}
