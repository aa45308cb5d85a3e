package octet

import (
	"math"
	"strings"
	"testing"

	"derrick/api"
)

// five are bytes of which every run is a different number, with a high bit in the last one.
const five = "\x01\x02\x03\x04\xff"

// edges16 are numbers at which a byte that is lost, swapped or wrapped round shows.
var edges16 = []uint16{0, 1, 127, 128, 255, 256, 257, 258, 0x7fff, 0x8000, 0xff00, 0xfffe, 0xffff}

var edges32 = []uint32{0, 1, 255, 256, 258, 0xffff, 0x10000, 0x01020304, 0x00ff00ff, 0x7fffffff, 0x80000000, 0xff000000, 0xfffffffe, 0xffffffff}

// badOffsets are offsets at which five has not a single byte.
var badOffsets = []int{5, 6, 1000, math.MaxInt32, math.MaxInt - 4, math.MaxInt - 1, math.MaxInt, -1, -2, -5, math.MinInt32, math.MinInt + 1, math.MinInt}

func TestPut16WritesTheMostSignificantByteFirst(t *testing.T) { // P1.1
	for _, c := range []struct {
		n    uint16
		want string
	}{{258, "\x01\x02"}, {0, "\x00\x00"}, {1, "\x00\x01"}, {255, "\x00\xff"}, {256, "\x01\x00"}, {0xfe01, "\xfe\x01"}, {0x8000, "\x80\x00"}, {0xffff, "\xff\xff"}} {
		if got := Put16(c.n); got != c.want {
			t.Errorf("Put16(%d) = %q, want %q", c.n, got, c.want)
		}
	}
}

func TestPut32WritesTheMostSignificantByteFirst(t *testing.T) { // P1.1
	for _, c := range []struct {
		n    uint32
		want string
	}{{0x01020304, "\x01\x02\x03\x04"}, {0, "\x00\x00\x00\x00"}, {5, "\x00\x00\x00\x05"}, {256, "\x00\x00\x01\x00"}, {0x10000, "\x00\x01\x00\x00"}, {0x80000000, "\x80\x00\x00\x00"}, {0xffffffff, "\xff\xff\xff\xff"}} {
		if got := Put32(c.n); got != c.want {
			t.Errorf("Put32(%d) = %q, want %q", c.n, got, c.want)
		}
	}
}

func TestPut16OfEveryNumber(t *testing.T) { // P1.1, P1.3
	for n := range 1 << 16 {
		s := Put16(uint16(n))
		if len(s) != 2 || int(s[0]) != n/256 || int(s[1]) != n%256 {
			t.Fatalf("Put16(%d) = %q", n, s)
		}
		if got, next, err := U16(s, 0); int(got) != n || next != 2 || err != api.OK {
			t.Fatalf("U16(%q, 0) = %d, %d, %d", s, got, next, err)
		}
	}
}

func TestU8(t *testing.T) { // P1.2
	for at, want := range []uint8{1, 2, 3, 4, 255} {
		if n, next, err := U8(five, at); n != want || next != at+1 || err != api.OK {
			t.Errorf("U8(five, %d) = %d, %d, %d", at, n, next, err)
		}
	}
	refuseU8(t, "", 0)
	for _, at := range badOffsets {
		refuseU8(t, five, at)
	}
}

func refuseU8(t *testing.T, s string, at int) {
	t.Helper()
	if n, next, err := U8(s, at); n != 0 || next != 0 || err != api.ErrForm {
		t.Errorf("U8(%q, %d) = %d, %d, %d, want ErrForm", s, at, n, next, err)
	}
}

func TestU16(t *testing.T) { // P1.2
	for at, want := range []uint16{0x0102, 0x0203, 0x0304, 0x04ff} {
		if n, next, err := U16(five, at); n != want || next != at+2 || err != api.OK {
			t.Errorf("U16(five, %d) = %d, %d, %d", at, n, next, err)
		}
	}
	refuseU16(t, "", 0)
	refuseU16(t, "\x01", 0)
	refuseU16(t, five, 4) // one byte too few
	for _, at := range badOffsets {
		refuseU16(t, five, at)
	}
}

func refuseU16(t *testing.T, s string, at int) {
	t.Helper()
	if n, next, err := U16(s, at); n != 0 || next != 0 || err != api.ErrForm {
		t.Errorf("U16(%q, %d) = %d, %d, %d, want ErrForm", s, at, n, next, err)
	}
}

func TestU32(t *testing.T) { // P1.2
	for at, want := range []uint32{0x01020304, 0x020304ff} {
		if n, next, err := U32(five, at); n != want || next != at+4 || err != api.OK {
			t.Errorf("U32(five, %d) = %d, %d, %d", at, n, next, err)
		}
	}
	refuseU32(t, "", 0)
	refuseU32(t, "\x01\x02\x03", 0)
	for at := 2; at < len(five); at++ { // one to three bytes too few
		refuseU32(t, five, at)
	}
	for _, at := range badOffsets {
		refuseU32(t, five, at)
	}
}

func refuseU32(t *testing.T, s string, at int) {
	t.Helper()
	if n, next, err := U32(s, at); n != 0 || next != 0 || err != api.ErrForm {
		t.Errorf("U32(%q, %d) = %d, %d, %d, want ErrForm", s, at, n, next, err)
	}
}

func TestSomeReturnsEveryRunOfBytes(t *testing.T) { // P1.2
	for at := 0; at <= len(five); at++ {
		for many := 0; at+many <= len(five); many++ {
			if got, next, err := Some(five, at, many); got != five[at:at+many] || next != at+many || err != api.OK {
				t.Errorf("Some(five, %d, %d) = %q, %d, %d", at, many, got, next, err)
			}
		}
	}
	if got, next, err := Some("", 0, 0); got != "" || next != 0 || err != api.OK {
		t.Errorf("Some of nothing = %q, %d, %d", got, next, err)
	}
}

func TestSomeRefuses(t *testing.T) { // P1.2
	refuseSome(t, "", 0, 1)
	refuseSome(t, "", 1, 0)
	for at := 0; at <= len(five); at++ {
		refuseSome(t, five, at, len(five)-at+1) // one byte too few
		for _, many := range []int{1000, math.MaxInt - at, math.MaxInt, -1, -at - 1, math.MinInt} {
			refuseSome(t, five, at, many)
		}
	}
	for _, at := range badOffsets {
		for _, many := range []int{1, 5, math.MaxInt, -1, -at, math.MinInt} {
			refuseSome(t, five, at, many)
		}
		if at != len(five) {
			refuseSome(t, five, at, 0)
		}
	}
}

func refuseSome(t *testing.T, s string, at, many int) {
	t.Helper()
	if at == len(s) && many == 0 {
		t.Fatal("no wrong input: zero bytes at the end")
	}
	if got, next, err := Some(s, at, many); got != "" || next != 0 || err != api.ErrForm {
		t.Errorf("Some(%q, %d, %d) = %q, %d, %d, want ErrForm", s, at, many, got, next, err)
	}
}

func TestWhatWasEncodedIsDecodedAtAnyOffset(t *testing.T) { // P1.3
	for before := range 20 {
		for _, after := range []string{"", "\x00", "\xff\xff\xff\xff\xff"} {
			head := strings.Repeat("\xa5", before)
			for n := range 256 {
				s := head + string([]byte{byte(n)}) + after
				if got, next, err := U8(s, before); int(got) != n || next != before+1 || err != api.OK {
					t.Fatalf("U8 of %d at %d: %d, %d, %d", n, before, got, next, err)
				}
			}
			for _, n := range edges16 {
				if got, next, err := U16(head+Put16(n)+after, before); got != n || next != before+2 || err != api.OK {
					t.Fatalf("U16 of %d at %d: %d, %d, %d", n, before, got, next, err)
				}
			}
			for _, n := range edges32 {
				s := head + Put32(n) + after
				if got, next, err := U32(s, before); got != n || next != before+4 || err != api.OK {
					t.Fatalf("U32 of %d at %d: %d, %d, %d", n, before, got, next, err)
				}
				if got, next, err := Some(s, before, 4); got != Put32(n) || next != before+4 || err != api.OK {
					t.Fatalf("Some of %d at %d: %q, %d, %d", n, before, got, next, err)
				}
			}
		}
	}
}

func TestANumberConsistsOfItsTwoHalves(t *testing.T) { // P1.3
	for _, high := range edges16 {
		if got := string([]byte{byte(high >> 8), byte(high)}); Put16(high) != got {
			t.Errorf("Put16(%d) = %q, its halves %q", high, Put16(high), got)
		}
		for _, low := range edges16 {
			n := uint32(high)<<16 | uint32(low)
			if Put32(n) != Put16(high)+Put16(low) {
				t.Errorf("Put32(%d) = %q, its halves %q", n, Put32(n), Put16(high)+Put16(low))
			}
			checkHalves(t, Put16(high)+Put16(low), n)
		}
	}
}

func checkHalves(t *testing.T, s string, n uint32) {
	t.Helper()
	whole, end, _ := U32(s, 0)
	first, middle, _ := U16(s, 0)
	second, last, _ := U16(s, middle)
	if whole != n || whole != uint32(first)<<16|uint32(second) || last != end {
		t.Errorf("%q: whole %d, halves %d and %d, ends %d and %d", s, whole, first, second, end, last)
	}
	a, next, _ := U8(s, 0)
	b, next2, _ := U8(s, next)
	if first != uint16(a)<<8|uint16(b) || next2 != middle {
		t.Errorf("%q: half %d, bytes %d and %d, ends %d and %d", s, first, a, b, middle, next2)
	}
}

// FuzzDecode holds the decoders against their definition, for any string and any offset: P1 and P1.2.
func FuzzDecode(f *testing.F) {
	f.Add(five, 0, 5)
	f.Add(five, 5, 0)
	f.Add("", math.MinInt, math.MaxInt)
	f.Fuzz(func(t *testing.T, s string, at, many int) {
		got, next, err := Some(s, at, many)
		fits := at >= 0 && many >= 0 && at <= len(s) && many <= len(s)-at
		if fits != (err == api.OK) {
			t.Fatalf("Some(%q, %d, %d): %d", s, at, many, err)
		}
		if fits && (got != s[at:at+many] || next != at+many) || !fits && (got != "" || next != 0 || err != api.ErrForm) {
			t.Fatalf("Some(%q, %d, %d) = %q, %d, %d", s, at, many, got, next, err)
		}
		n, end, err := U32(s, at)
		if b, _, e := Some(s, at, 4); e != err || e == api.OK && (Put32(n) != b || end != at+4) || e != api.OK && (n != 0 || end != 0) {
			t.Fatalf("U32(%q, %d) = %d, %d, %d", s, at, n, end, err)
		}
	})
}
