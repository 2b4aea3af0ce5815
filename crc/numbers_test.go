package crc

import (
	"bytes"
	"math"
	"strings"
	"testing"

	"hornbook/api"
)

const sample = 0x0807060504030201

var sampleBytes = []byte{1, 2, 3, 4, 5, 6, 7, 8}

// widths: how many bytes are asked for, how many are meant.
var widths = []struct{ asked, held int }{
	{math.MinInt, 0}, {-9, 0}, {-1, 0}, {0, 0}, {1, 1}, {2, 2}, {3, 3}, {4, 4}, {5, 5},
	{6, 6}, {7, 7}, {8, 8}, {9, 8}, {64, 8}, {math.MaxInt, 8},
}

// P1.2
func TestPut(t *testing.T) {
	for _, w := range widths {
		for _, b := range [][]byte{nil, {}, {9}, {9, 8, 7}} {
			want := append(bytes.Clone(b), sampleBytes[:w.held]...)
			if got := Put(b, sample, w.asked); !bytes.Equal(got, want) {
				t.Errorf("Put(%x, .., %d) = %x, want %x", b, w.asked, got, want)
			}
		}
	}
}

// P1.2: what is above the lowest bytes is left out.
func TestPutLeavesHighBytesOut(t *testing.T) {
	if got := Put(nil, 0xABCD, 1); !bytes.Equal(got, []byte{0xCD}) {
		t.Errorf("%x", got)
	}
	if got := Put(nil, math.MaxUint64, 3); !bytes.Equal(got, []byte{255, 255, 255}) {
		t.Errorf("%x", got)
	}
	if got := Put(nil, 5, 8); !bytes.Equal(got, []byte{5, 0, 0, 0, 0, 0, 0, 0}) {
		t.Errorf("%x", got)
	}
}

// P1.2
func TestGet(t *testing.T) {
	for _, w := range widths {
		want := uint64(sample)
		if w.held < 8 {
			want &= 1<<(8*w.held) - 1
		}
		for _, behind := range [][]byte{nil, {0}, {200, 201}} {
			b := append(bytes.Clone(sampleBytes[:w.held]), behind...)
			n, rest, e := Get(b, w.asked)
			if n != want || !bytes.Equal(rest, behind) || e != api.OK {
				t.Errorf("Get(%x, %d) = %#x, %x, %v", b, w.asked, n, rest, e)
			}
		}
	}
}

// P1.2
func TestGetOfTooFew(t *testing.T) {
	for _, w := range widths {
		for few := range w.held {
			b := sampleBytes[:few]
			n, rest, e := Get(b, w.asked)
			if n != 0 || !bytes.Equal(rest, b) || e != api.ErrShort {
				t.Errorf("Get(%x, %d) = %#x, %x, %v", b, w.asked, n, rest, e)
			}
		}
	}
	if n, rest, e := Get(nil, 1); n != 0 || len(rest) != 0 || e != api.ErrShort {
		t.Errorf("Get(nil, 1) = %d, %x, %v", n, rest, e)
	}
}

// P1.2
func TestGetTellsWhatWasPut(t *testing.T) {
	for _, n := range []uint64{0, 1, 255, 256, 65535, 1 << 31, 1<<32 - 1, 1 << 63, math.MaxUint64} {
		for width := range 9 {
			want := n
			if width < 8 {
				want &= 1<<(8*width) - 1
			}
			got, rest, e := Get(Put(nil, n, width), width)
			if got != want || len(rest) != 0 || e != api.OK {
				t.Errorf("%#x in %d bytes: %#x, %x, %v", n, width, got, rest, e)
			}
		}
	}
}

// P1.2
func TestText(t *testing.T) {
	for _, c := range []struct {
		b    []byte
		s    string
		want []byte
	}{
		{nil, "", []byte{0, 0}},
		{[]byte{}, "", []byte{0, 0}},
		{[]byte{7}, "", []byte{7, 0, 0}},
		{nil, "abc", []byte{3, 0, 'a', 'b', 'c'}},
		{[]byte{7, 6}, "\x00\xff", []byte{7, 6, 2, 0, 0, 255}},
	} {
		if got := Text(c.b, c.s); !bytes.Equal(got, c.want) {
			t.Errorf("Text(%x, %q) = %x, want %x", c.b, c.s, got, c.want)
		}
	}
	if got := Text(nil, strings.Repeat("x", 258)); len(got) != 260 || got[0] != 2 || got[1] != 1 {
		t.Errorf("258 bytes: %x ..", got[:2])
	}
}

// countedText is a text of which each two pieces are unlike.
func countedText(n int) string {
	b := make([]byte, n)
	for i := range b {
		b[i] = byte(i*7 + i>>8)
	}
	return string(b)
}

// P1.2
func TestTextOfTheMostBytes(t *testing.T) {
	long := countedText(200000)
	for _, n := range []int{65534, 65535, 65536, 65537, 131072, 200000} {
		kept := min(n, 65535)
		want := append([]byte{4, byte(kept), byte(kept >> 8)}, long[:kept]...)
		got := Text([]byte{4}, long[:n])
		if !bytes.Equal(got, want) {
			t.Errorf("%d bytes: %d are told, want %d", n, len(got), len(want))
		}
		s, rest, e := GetText(append(got[1:], 9), 65535)
		if s != long[:kept] || !bytes.Equal(rest, []byte{9}) || e != api.OK {
			t.Errorf("%d bytes, read: %d, %x, %v", n, len(s), rest, e)
		}
		if s, rest, e := GetText(got[1:], kept-1); s != "" || !bytes.Equal(rest, got[1:]) || e != api.ErrLong {
			t.Errorf("%d bytes, one fewer allowed: %d, %d, %v", n, len(s), len(rest), e)
		}
	}
}

// P1.2
func TestGetText(t *testing.T) {
	abc := []byte{3, 0, 'a', 'b', 'c'}
	for _, c := range []struct {
		b    []byte
		most int
		s    string
		rest []byte
		e    api.Errno
	}{
		{abc, 3, "abc", nil, api.OK},
		{abc, 4, "abc", nil, api.OK},
		{abc, math.MaxInt, "abc", nil, api.OK},
		{append(bytes.Clone(abc), 8, 9), 3, "abc", []byte{8, 9}, api.OK},
		{abc, 2, "", abc, api.ErrLong},
		{abc, 0, "", abc, api.ErrLong},
		{abc, -1, "", abc, api.ErrLong},
		{abc, math.MinInt, "", abc, api.ErrLong},
		{abc[:4], 3, "", abc[:4], api.ErrShort},
		{abc[:2], 3, "", abc[:2], api.ErrShort},
		{abc[:4], 2, "", abc[:4], api.ErrLong}, // both apply: the chapter names ErrLong first
		{abc[:2], 2, "", abc[:2], api.ErrLong},
		{abc[:1], 2, "", abc[:1], api.ErrShort}, // there is no length yet
		{abc[:1], -1, "", abc[:1], api.ErrShort},
		{nil, 0, "", nil, api.ErrShort},
		{nil, -1, "", nil, api.ErrShort},
		{[]byte{}, 9, "", nil, api.ErrShort},
		{[]byte{0, 0}, 0, "", nil, api.OK},
		{[]byte{0, 0, 5}, 9, "", []byte{5}, api.OK},
		{[]byte{0, 0, 5}, -1, "", []byte{0, 0, 5}, api.ErrLong},
		{[]byte{0, 1, 5}, 255, "", []byte{0, 1, 5}, api.ErrLong}, // the high byte counts
		{[]byte{0, 1, 5}, 256, "", []byte{0, 1, 5}, api.ErrShort},
		{[]byte{255, 255}, 65534, "", []byte{255, 255}, api.ErrLong},
		{[]byte{255, 255}, 65535, "", []byte{255, 255}, api.ErrShort},
		{[]byte{2, 0, 0xC3, 0x28}, 2, "\xc3\x28", nil, api.OK}, // bytes, not code points
	} {
		s, rest, e := GetText(c.b, c.most)
		if s != c.s || !bytes.Equal(rest, c.rest) || e != c.e {
			t.Errorf("GetText(%x, %d) = %q, %x, %v; want %q, %x, %v", c.b, c.most, s, rest, e, c.s, c.rest, c.e)
		}
	}
}

// checkNumber writes and reads n, in its own type, in each width; what the
// type has no room for is nought.
func checkNumber[N unsigned](t *testing.T, n N) {
	t.Helper()
	for width := range 9 {
		want := Put(nil, uint64(n), width)
		got := appendNumber([]byte{}, n, width)
		if !bytes.Equal(got, want) {
			t.Errorf("%T %d in %d bytes: %x, want %x", n, n, width, got, want)
		}
		wide, _, _ := Get(want, width)
		if back := readNumber[N](got); back != N(wide) {
			t.Errorf("%T %d from %d bytes: %d", n, n, width, back)
		}
	}
}

type named uint16

// Ways: numbers in any unsigned type by one generic function.
func TestNumbersOfAnyUnsignedType(t *testing.T) {
	checkNumber(t, uint8(0xA1))
	checkNumber(t, uint16(0xA1B2))
	checkNumber(t, uint32(0xA1B2C3D4))
	checkNumber(t, uint64(0xA1B2C3D4E5F60718))
	checkNumber(t, uint(0xA1B2C3D4))
	checkNumber(t, uintptr(0xA1B2C3D4))
	checkNumber(t, named(0xA1B2))
}
