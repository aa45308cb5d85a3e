package rdata

import (
	"fmt"
	"math"
	"strings"
	"testing"

	"derrick/api"
	"derrick/name"
	"derrick/wire"
)

const (
	root  = "\x00"
	ab    = "\x02ab\x00"
	cAb   = "\x01c\x02ab\x00"
	wwwAb = "\x03www\x02ab\x00"
	sixty = "\x3cxxxxxxxxxxxxxxxxxxxxxxxxxxxxxxxxxxxxxxxxxxxxxxxxxxxxxxxxxxxx" // a label of 60 bytes, with its length
	deep  = sixty + sixty + sixty + sixty
)

// twenty is the end of an SOA. Bytes of it would be uppercase letters, lengths and pointers in a name.
const twenty = "ABCD\x00\x01\x02\x03\xc0\x00\xc0\x01\xff\xfe\x3f\x40xyZ!"

// name255 and name256 are the longest name and one that is too long by a byte.
const (
	name255 = deep + "\x09nnnnnnnnn\x00"
	name256 = deep + "\x0annnnnnnnnn\x00"
)

// strings65535 and strings65536 are strings that have as many bytes as data may have, and one byte more.
var (
	strings65535 = strings.Repeat("\xff"+strings.Repeat("s", 255), 255) + "\xfe" + strings.Repeat("t", 254)
	strings65536 = strings.Repeat("\xff"+strings.Repeat("s", 255), 256)
)

// named are the types of which the document says what their data are.
var named = []uint16{api.A, api.NS, api.CNAME, api.SOA, api.PTR, api.MX, api.TXT, api.AAAA}

// others are types of which it does not; among them such whose data elsewhere contain names.
var others = []uint16{0, 3, 4, 7, 11, 13, 14, 17, 27, 29, 33, 39, 41, 99, 255, 256 + api.A, 256 + api.NS, 32768 + api.MX, 65535}

type datum struct {
	kind uint16
	d    string
}

// data are data of each type, with their edges.
func data() []datum {
	l := []datum{
		{api.A, "\x01\x02\x03\x04"}, {api.A, "ABCD"}, {api.A, "\x00\x00\x00\x00"}, {api.A, "\xc0\x00\xff\xff"},
		{api.AAAA, "0123456789abcdef"}, {api.AAAA, strings.Repeat("\x00", 16)}, {api.AAAA, strings.Repeat("\xc0Z", 8)},
		{api.TXT, "\x01a"}, {api.TXT, "\x00"}, {api.TXT, "\x00\x00\x00"}, {api.TXT, "\x01a\x00\x03bCd"}, {api.TXT, "\x02\xc0\x00\x01A"},
		{api.TXT, ab}, {api.TXT, "\xff" + strings.Repeat("Y", 255)}, {api.TXT, strings65535},
		{api.TXT, strings.Repeat("\x00", 65535)},
	}
	for _, n := range names {
		l = append(l, datum{api.NS, n}, datum{api.CNAME, n}, datum{api.PTR, n}, datum{api.MX, "\x00\x0a" + n}, datum{api.MX, "AZ" + n}, datum{api.MX, "\xc0\x00" + n})
		for _, m := range []string{root, n, cAb, name255} {
			l = append(l, datum{api.SOA, n + m + twenty}, datum{api.SOA, m + n + strings.Repeat("\x00", 20)})
		}
	}
	for _, kind := range others {
		for _, d := range []string{"", "\x00", "ABC", ab, "\x01A\x00", "\xc0\x00", "\xff", strings.Repeat("O", 65535)} {
			l = append(l, datum{kind, d})
		}
	}
	return l
}

// names are names of all kinds, also such with bytes in a label that would be lengths or pointers.
var names = []string{root, "\x01a\x00", ab, cAb, wwwAb, name255, "\x04\x00\xc0.\\\x00", "\x02\xc0\x00\x00", "\x03\x02ab\x00"}

// notNames are bytes that are no name: uppercase letters, pointers, too few bytes and too many among them.
var notNames = []string{
	"", "a", "\x01", "\x01a", "\x02a\x00", "\x02ab", root + root, ab + "x", ab + root, root + ab, ab + ab,
	"\x01A\x00", "\x02ab\x01Z\x00", "\x02Ab\x00", "\xc0\x00", "\x01a\xc0\x00", "\x40" + strings.Repeat("y", 64) + "\x00", "\x80\x00", name256, name255 + root,
}

// notData are bytes that are no data of the type.
func notData() []datum {
	l := []datum{
		{api.A, ""}, {api.A, "abc"}, {api.A, "abcde"}, {api.A, strings.Repeat("a", 16)}, {api.A, strings.Repeat("a", 65536)}, {api.A, strings.Repeat("a", 65540)},
		{api.AAAA, ""}, {api.AAAA, "abcd"}, {api.AAAA, strings.Repeat("a", 15)}, {api.AAAA, strings.Repeat("a", 17)}, {api.AAAA, strings.Repeat("a", 65552)},
		{api.MX, ""}, {api.MX, "\x00"}, {api.MX, "\x00\x05"}, {api.MX, "\x00" + ab}, {api.MX, ab}, {api.MX, "\x00\x00\x05" + ab},
		{api.TXT, ""}, {api.TXT, "\x01"}, {api.TXT, "\x02a"}, {api.TXT, "\x00\x01"}, {api.TXT, "\x01a\x02b"}, {api.TXT, "\xff" + strings.Repeat("y", 254)}, {api.TXT, "abc"},
		{api.TXT, strings65536}, {api.TXT, strings65535 + "\x00"}, {api.TXT, strings.Repeat("\x00", 65536)},
		{api.SOA, ""}, {api.SOA, twenty}, {api.SOA, ab + twenty}, {api.SOA, ab + cAb}, {api.SOA, ab + cAb + twenty[:19]}, {api.SOA, ab + cAb + twenty + "!"},
		{api.SOA, root + root + twenty[:19]}, {api.SOA, root + root + strings.Repeat("\x00", 21)}, {api.SOA, ab + ab + ab + twenty}, {api.SOA, "!" + ab + ab + twenty},
		{api.SOA, ab + "\xc0\x00" + twenty}, {api.SOA, "\xc0\x00" + ab + twenty}, {api.SOA, ab + "\x01c\xc0\x00" + twenty}, {api.SOA, name255 + "\xc0\x3d" + twenty},
		{api.SOA, "\x02aB\x00" + ab + twenty}, {api.SOA, ab + "\x02Ab\x00" + twenty}, {api.SOA, name256 + ab + twenty}, {api.SOA, ab + name256 + twenty},
		{api.MX, "\x00\x00\xc0\x00"}, {api.MX, "\x01a\x00\xc0\x00"}, {api.SOA, root + root + strings.Repeat("\x00", 65536)},
	}
	for _, n := range notNames {
		l = append(l, datum{api.NS, n}, datum{api.CNAME, n}, datum{api.PTR, n}, datum{api.MX, "\x00\x0a" + n})
	}
	for _, kind := range others {
		l = append(l, datum{kind, strings.Repeat("o", 65536)}, datum{kind, strings.Repeat("o", 70000)}, datum{kind, strings.Repeat("o", 131072)})
	}
	return l
}

// short keeps a report readable.
func short(s string) string {
	if len(s) > 300 {
		return fmt.Sprintf("%q.. (%d bytes)", s[:300], len(s))
	}
	return fmt.Sprintf("%q", s)
}

func takes(t *testing.T, s string, at, many int, kind uint16, want string) {
	t.Helper()
	if d, err := Take(s, at, many, kind); d != want || err != api.OK {
		t.Errorf("Take(%s, %d, %d, %d) = %s, %d, want %s", short(s), at, many, kind, short(d), err, short(want))
	}
}

func refuses(t *testing.T, s string, at, many int, kind uint16) {
	t.Helper()
	if d, err := Take(s, at, many, kind); d != "" || err != api.ErrForm {
		t.Errorf("Take(%s, %d, %d, %d) = %s, %d, want ErrForm", short(s), at, many, kind, short(d), err)
	}
}

func puts(t *testing.T, p *wire.Pack, kind uint16, d, want string) {
	t.Helper()
	before := p.Out()
	if err := Put(p, kind, d); err != api.OK {
		t.Errorf("Put of %d, %s = %d", kind, short(d), err)
	}
	if got := p.Out(); got != before+want {
		t.Errorf("Put of %d, %s: the pack is %s, want %s", kind, short(d), short(got), short(before+want))
	}
}

func TestMay(t *testing.T) { // P4.1
	for _, c := range data() {
		if !May(c.kind, c.d) {
			t.Errorf("May(%d, %s) = false", c.kind, short(c.d))
		}
	}
	for _, c := range notData() {
		if May(c.kind, c.d) {
			t.Errorf("May(%d, %s) = true", c.kind, short(c.d))
		}
	}
}

func TestMayOfEverySizeOfAnAddress(t *testing.T) { // P4.1
	for size := range 300 {
		d := strings.Repeat("\x01", size)
		if May(api.A, d) != (size == 4) || May(api.AAAA, d) != (size == 16) {
			t.Errorf("%d bytes: A %t, AAAA %t", size, May(api.A, d), May(api.AAAA, d))
		}
	}
}

func TestMayOfEveryEndOfAnSOA(t *testing.T) { // P4.1
	for _, n := range []string{root + root, ab + root, root + ab, name255 + name255} {
		for size := range 60 {
			if d := n + strings.Repeat("\x00", size); May(api.SOA, d) != (size == 20) {
				t.Errorf("two names and %d bytes: May(%s) = %t", size, short(d), May(api.SOA, d))
			}
		}
	}
}

func TestMayOfEveryType(t *testing.T) { // P4.1, P4.3
	isNamed := map[int]bool{}
	for _, kind := range named {
		isNamed[int(kind)] = true
	}
	for kind := range 65536 {
		if isNamed[kind] {
			if May(uint16(kind), "") || May(uint16(kind), "\x01A\x00!!") {
				t.Errorf("type %d has data that are no data", kind)
			}
			continue
		}
		for _, d := range []string{"", "\x01A\x00!!", ab} {
			if !May(uint16(kind), d) {
				t.Errorf("May(%d, %q) = false", kind, d)
			}
			if n, ok := Target(uint16(kind), d); n != "" || ok {
				t.Errorf("Target(%d, %q) = %q, %t", kind, d, n, ok)
			}
		}
	}
}

func TestPutOfNewNames(t *testing.T) { // P4.1
	for _, c := range data() {
		// The two names of an SOA may have parents in common: see the tests of known names.
		if c.kind != api.SOA {
			puts(t, wire.New(), c.kind, c.d, c.d)
		}
	}
	puts(t, wire.New(), api.SOA, ab+root+twenty, ab+root+twenty)
	puts(t, wire.New(), api.SOA, ab+"\x02xy\x00"+twenty, ab+"\x02xy\x00"+twenty)
	puts(t, new(wire.Pack), api.MX, "\x00\x0a"+ab, "\x00\x0a"+ab)
}

func TestPutOfKnownNames(t *testing.T) { // P4.1
	for _, c := range []struct {
		kind    uint16
		d, want string
	}{
		{api.NS, ab, "\xc0\x04"},
		{api.CNAME, wwwAb, "\xc0\x00"},
		{api.PTR, cAb, "\x01c\xc0\x04"},
		{api.PTR, root, root},
		{api.MX, "\x00\x0a" + ab, "\x00\x0a\xc0\x04"},
		{api.MX, "\x02a" + ab, "\x02a\xc0\x04"},
		{api.SOA, wwwAb + ab + twenty, "\xc0\x00\xc0\x04" + twenty},
		{api.SOA, cAb + cAb + twenty, "\x01c\xc0\x04\xc0\x08" + twenty},
		{api.SOA, cAb + "\x01x" + cAb + twenty, "\x01c\xc0\x04\x01x\xc0\x08" + twenty},
		{api.SOA, root + root + twenty, root + root + twenty},
		{api.SOA, ab + ab + wwwAb + wwwAb + "qrst", "\xc0\x04\xc0\x04" + wwwAb + wwwAb + "qrst"}, // names in the twenty bytes
		{api.TXT, wwwAb[:7], wwwAb[:7]},
		{api.TXT, wwwAb + ab, wwwAb + ab},
		{api.AAAA, wwwAb + wwwAb, wwwAb + wwwAb},
		{api.A, ab, ab},
		{33, "\x00\x01\x00\x02\x00\x03" + ab, "\x00\x01\x00\x02\x00\x03" + ab},
		{39, wwwAb, wwwAb},
		{3, ab, ab},
		{99, "", ""},
	} {
		p := wire.New()
		p.Name(wwwAb)
		puts(t, p, c.kind, c.d, c.want)
		takes(t, p.Out(), len(wwwAb), len(c.want), c.kind, c.d)
	}
}

func TestNamesInDataBecomeKnown(t *testing.T) { // P4.1
	p := wire.New()
	puts(t, p, api.MX, "\x00\x0a"+cAb, "\x00\x0a"+cAb)
	puts(t, p, api.NS, cAb, "\xc0\x02")
	puts(t, p, api.SOA, ab+wwwAb+twenty, "\xc0\x04\x03www\xc0\x04"+twenty)
	puts(t, p, api.PTR, wwwAb, "\xc0\x0c")
	// What is not a part that is a name does not become known, even if its bytes are one.
	p = wire.New()
	puts(t, p, api.TXT, "\x02ab\x00", "\x02ab\x00")
	puts(t, p, api.A, "\x02ab\x00", "\x02ab\x00")
	puts(t, p, 39, ab, ab)
	puts(t, p, api.NS, ab, ab)
	puts(t, p, api.NS, ab, "\xc0\x0c")
}

func TestPutBehind16384(t *testing.T) { // P4.1
	p := wire.New()
	p.Name(ab)
	p.Add(strings.Repeat("-", 16384))
	at := p.Len()
	puts(t, p, api.SOA, cAb+cAb+twenty, "\x01c\xc0\x00\x01c\xc0\x00"+twenty)
	takes(t, p.Out(), at, p.Len()-at, api.SOA, cAb+cAb+twenty)
}

func TestPutRefusesWhatIsNoData(t *testing.T) { // P4.1, R1
	for _, c := range notData() {
		p := wire.New()
		p.Name(wwwAb)
		if err := Put(p, c.kind, c.d); err != api.ErrArg {
			t.Errorf("Put of %d, %s = %d", c.kind, short(c.d), err)
		}
		if p.Out() != wwwAb || p.Len() != len(wwwAb) {
			t.Errorf("Put of %d, %s changed the pack to %s", c.kind, short(c.d), short(p.Out()))
		}
	}
}

func TestARefusedPutMakesNothingKnown(t *testing.T) { // P4.1
	p := wire.New()
	p.Name(ab)
	for _, c := range []datum{
		{api.SOA, cAb + cAb + twenty[:19]}, {api.SOA, cAb + cAb + twenty + "!"}, {api.SOA, cAb + "\x01C\x00" + twenty}, {api.SOA, cAb},
		{api.MX, "\x00\x0a" + cAb + "!"}, {api.NS, cAb + root}, {api.NS, cAb + cAb},
	} {
		if err := Put(p, c.kind, c.d); err != api.ErrArg {
			t.Errorf("Put of %d, %s = %d", c.kind, short(c.d), err)
		}
	}
	puts(t, p, api.NS, cAb, "\x01c\xc0\x00")
}

func TestPutToNoPack(t *testing.T) { // P4.1, P1
	for _, c := range append(data(), notData()...) {
		if err := Put(nil, c.kind, c.d); err != api.ErrArg {
			t.Errorf("Put(nil, %d, %s) = %d", c.kind, short(c.d), err)
		}
	}
}

func TestPacksAreSeparate(t *testing.T) { // R4
	p, q := wire.New(), wire.New()
	puts(t, p, api.NS, ab, ab)
	puts(t, q, api.NS, ab, ab)
	puts(t, p, api.NS, ab, "\xc0\x00")
	if q.Out() != ab {
		t.Errorf("another pack became %q", q.Out())
	}
}

func TestTakeOfWholeNames(t *testing.T) { // P4.2
	for _, c := range data() {
		takes(t, c.d, 0, len(c.d), c.kind, c.d)
		takes(t, "\xc0\x00-"+c.d, 3, len(c.d), c.kind, c.d)
		takes(t, "\xc0\x00-"+c.d+"\x00\xc0", 3, len(c.d), c.kind, c.d)
	}
}

// TestTakeOfNoData has the bytes that differ from data by uppercase letters or by pointers in names only in tests of
// their own, as Take decodes these.
func TestTakeOfNoData(t *testing.T) { // P4.2, R1
	for _, c := range notData() {
		if want, ok := plainTake(c.d, 0, len(c.d), c.kind); ok {
			takes(t, c.d, 0, len(c.d), c.kind, want)
			if want == c.d {
				t.Errorf("%d, %s is data", c.kind, short(c.d))
			}
			continue
		}
		refuses(t, c.d, 0, len(c.d), c.kind)
		refuses(t, "@"+c.d+root, 1, len(c.d), c.kind) // no name at offset 0, where pointers lead
	}
}

func TestTakeFoldsNamesAlone(t *testing.T) { // P4.2
	for _, kind := range []uint16{api.NS, api.CNAME, api.PTR} {
		takes(t, "\x01C\x02aB\x00", 0, 6, kind, cAb)
		takes(t, "\x02AB\x00\x01C\xc0\x00", 4, 4, kind, cAb)
		takes(t, "\x03@[`\x01{\x00", 0, 7, kind, "\x03@[`\x01{\x00")
	}
	takes(t, "AB\x01C\x02AB\x00", 0, 8, api.MX, "AB"+cAb)
	takes(t, "\x02AB\x00\x01C\xc0\x00\xc0\x04"+twenty, 4, 6+20, api.SOA, cAb+cAb+twenty)
	takes(t, "\x03ABC\x00\x01Z", 0, 7, api.TXT, "\x03ABC\x00\x01Z")
	takes(t, "ABCD", 0, 4, api.A, "ABCD")
	takes(t, strings.Repeat("AB", 8), 0, 16, api.AAAA, strings.Repeat("AB", 8))
	takes(t, "\x02AB\x00", 0, 4, 99, "\x02AB\x00")
}

func TestTakeThroughPointers(t *testing.T) { // P4.2
	s := wwwAb + "\xc0\x04\x01c\xc0\x08\x00\x0a\xc0\x0a"
	takes(t, s, 8, 2, api.NS, ab)
	takes(t, s, 10, 4, api.CNAME, cAb)
	takes(t, s, 14, 4, api.MX, "\x00\x0a"+cAb)
	takes(t, s, 14, 4, 99, "\x00\x0a\xc0\x0a")
	takes(t, s, 14, 4, api.A, "\x00\x0a\xc0\x0a")
	// The second name of an SOA leads to the first one, and to a part of it.
	takes(t, "--"+cAb+"\xc0\x02"+twenty, 2, 6+2+20, api.SOA, cAb+cAb+twenty)
	takes(t, "--"+cAb+"\x01d\xc0\x04"+twenty, 2, 6+4+20, api.SOA, cAb+"\x01d"+ab+twenty)
	// Offsets count from the begin of s, not of the data.
	refuses(t, "--"+cAb+"\xc0\x00"+twenty, 2, 6+2+20, api.SOA)
	// A pointer to the preference before the name, and to the name itself.
	takes(t, "\x01a\x00", 0, 3, api.MX, "\x01a\x00")
	takes(t, "\x00\x07\xc0\x00", 0, 4, api.MX, "\x00\x07\x00")
	refuses(t, "\x00\x07\xc0\x02", 0, 4, api.MX)
	refuses(t, "\xc0\x00", 0, 2, api.NS)
	refuses(t, "\xc0\x02\x00", 0, 2, api.NS)
}

// TestTakeReadsNamesInTheWholeString has a label after a pointer that covers the data, and ends behind them.
func TestTakeReadsNamesInTheWholeString(t *testing.T) { // P4.2
	takes(t, "\x05\xc0\x00abc\x00", 1, 2, api.NS, "\x05\xc0\x00abc\x00")
	takes(t, "\x05\x00\x01\xc0\x00Z\x00", 1, 4, api.MX, "\x00\x01\x05\x00\x01\xc0\x00z\x00")
	takes(t, "\x3f\x00\xc0\x00"+twenty+strings.Repeat("e", 40)+"\x00", 1, 23, api.SOA, "\x00\x3f\x00\xc0\x00"+name.Fold(twenty)+strings.Repeat("e", 40)+"\x00"+twenty)
	refuses(t, "\x05\xc0\x00abc", 1, 2, api.NS)
	refuses(t, "\x05\xc0\x00", 1, 2, api.NS)
}

func TestTakeOfLongNames(t *testing.T) { // P4.2
	takes(t, name255, 0, 255, api.NS, name255)
	refuses(t, name256, 0, 256, api.NS)
	takes(t, name255[61:]+sixty+"\xc0\x00", 194, 63, api.NS, sixty+name255[61:])
	takes(t, "\x00"+name255[:254]+"\xc0\x00", 1, 256, api.PTR, name255) // its encoding has a byte more
	refuses(t, "\x01b\x00"+name255[:254]+"\xc0\x00", 3, 256, api.PTR)
	takes(t, "\x00"+name255[:254]+"\xc0\x00"+name255[:254]+"\xc0\x00"+twenty, 1, 532, api.SOA, name255+name255+twenty)
}

// encodings are encodings of named types, with what is behind them in the string. Each is of a type of which no
// encoding begins another one.
var encodings = []struct {
	kind        uint16
	code, after string
}{
	{api.A, "\x01\x02\x03\x04", "\x05\x06"},
	{api.AAAA, "0123456789abcdef", "gh"},
	{api.NS, ab, "\x00\x00"},
	{api.CNAME, root, root + root},
	{api.PTR, "\x01c\xc0\x00", "\x00\x00"},
	{api.MX, "\x00\x0a" + root, "\x00\x00"},
	{api.MX, "\x00\x0a" + ab, "\x00\x00"},
	{api.MX, "\x00\x0a\xc0\x00", "\x00\x00"},
	{api.SOA, root + root + strings.Repeat("\x00", 20), "\x00\x00"},
	{api.SOA, ab + "\x01c\xc0\x00" + twenty, "\x00\x00"},
}

func TestTakeEndsExactlyAtTheEnd(t *testing.T) { // P4.2, R1
	for _, c := range encodings {
		s := "\x01q\x00" + c.code + c.after
		for many := range len(c.code) + len(c.after) + 1 {
			if _, err := Take(s, 3, many, c.kind); (err == api.OK) != (many == len(c.code)) {
				t.Errorf("Take(%s, 3, %d, %d): error %d", short(s), many, c.kind, err)
			}
			if many != len(c.code) {
				refuses(t, s, 3, many, c.kind)
			}
		}
		// The string itself ends too early.
		for end := 3; end < 3+len(c.code); end++ {
			refuses(t, s[:end], 3, end-3, c.kind)
			refuses(t, s[:end], 3, len(c.code), c.kind)
		}
	}
}

func TestTakeOfSOAWithNineteenAndTwentyOneBytes(t *testing.T) { // P4.2
	for _, n := range []string{root + root, ab + cAb, ab + "\xc0\x00", "\xc0\x00\xc0\x00"} {
		s := ab + n + strings.Repeat("e", 30)
		for size := range 31 {
			if size == 20 {
				continue
			}
			refuses(t, s, len(ab), len(n)+size, api.SOA)
			refuses(t, s[:len(ab)+len(n)+size], len(ab), len(n)+size, api.SOA)
		}
	}
	takes(t, ab+"\xc0\x00\xc0\x00"+strings.Repeat("e", 30), 4, 24, api.SOA, ab+ab+strings.Repeat("e", 20))
}

func TestTakeOfStrings(t *testing.T) { // P4.2
	s := "\x01a\x00\x02bc\x03def"
	for many := range len(s) + 1 {
		if many == 2 || many == 3 || many == 6 || many == 10 {
			takes(t, s, 0, many, api.TXT, s[:many])
		} else {
			refuses(t, s, 0, many, api.TXT) // none, or the last one is cut short, whatever is behind it
		}
	}
	refuses(t, s, len(s), 0, api.TXT)
	refuses(t, "", 0, 0, api.TXT)
	refuses(t, "\x00", 0, 0, api.TXT)
	refuses(t, "\x02a", 0, 2, api.TXT)
	refuses(t, "\x00\x02a", 0, 3, api.TXT)
	takes(t, "--\x00", 2, 1, api.TXT, "\x00")
}

func TestTakeOf65535Bytes(t *testing.T) { // P4.2
	s := "-" + strings.Repeat("\x00", 65537)
	for _, kind := range append([]uint16{api.TXT}, others...) {
		takes(t, s, 1, 65535, kind, s[1:65536])
		refuses(t, s, 1, 65536, kind)
		refuses(t, s, 1, 65537, kind)
	}
	takes(t, strings65535, 0, 65535, api.TXT, strings65535)
	refuses(t, strings65536, 0, 65536, api.TXT)
	for _, kind := range named {
		refuses(t, s, 1, 65536, kind)
		refuses(t, s, 1, 65537, kind)
	}
}

func TestTakeOfNoBytes(t *testing.T) { // P4.2
	for _, s := range []string{"", "a", ab + ab + twenty} {
		for at := range len(s) + 1 {
			for _, kind := range others {
				takes(t, s, at, 0, kind, "")
			}
			for _, kind := range named {
				refuses(t, s, at, 0, kind)
			}
		}
	}
}

func TestTakeOfBytesThatAreNotThere(t *testing.T) { // P4.2, R1
	numbers := []int{math.MinInt, math.MinInt + 1, -65536, -4, -1, 0, 1, 4, 16, 65536, math.MaxInt - 4, math.MaxInt - 1, math.MaxInt}
	for _, s := range []string{"", "abcd", ab, root + root + twenty} {
		for _, at := range append(numbers, len(s), len(s)+1, len(s)-4, -len(s)) {
			for _, many := range append(numbers, len(s), len(s)+1, len(s)-at, len(s)-at+1) {
				if at >= 0 && many >= 0 && at <= len(s) && many <= len(s)-at {
					continue
				}
				for _, kind := range append(others, named...) {
					refuses(t, s, at, many, kind)
				}
			}
		}
	}
}

func TestTarget(t *testing.T) { // P4.3
	for _, n := range names {
		for _, c := range []datum{{api.NS, n}, {api.CNAME, n}, {api.PTR, n}, {api.MX, "\x00\x0a" + n}, {api.MX, "AZ" + n}} {
			if got, ok := Target(c.kind, c.d); got != n || !ok {
				t.Errorf("Target(%d, %s) = %s, %t", c.kind, short(c.d), short(got), ok)
			}
		}
	}
}

func TestTargetOfDataWithout(t *testing.T) { // P4.3, R1
	for _, c := range data() {
		switch c.kind {
		case api.NS, api.CNAME, api.PTR, api.MX:
			continue
		}
		if n, ok := Target(c.kind, c.d); n != "" || ok {
			t.Errorf("Target(%d, %s) = %q, %t", c.kind, short(c.d), n, ok)
		}
	}
	for _, c := range notData() {
		if n, ok := Target(c.kind, c.d); n != "" || ok {
			t.Errorf("Target(%d, %s) = %q, %t", c.kind, short(c.d), n, ok)
		}
	}
}

// rows is a sequence of numbers that looks irregular, and is the same in each run.
type rows uint32

func (r *rows) below(n int) int {
	*r = *r*1664525 + 1013904223
	return int(*r>>16) % n
}

// written is where data were put.
type written struct {
	at, many int
	datum
}

func TestWhatWasPutIsTaken(t *testing.T) { // P4.4
	all := data()
	for seed := range 100 {
		r := rows(seed)
		p := wire.New()
		p.Add(strings.Repeat("\xc0", r.below(2)*r.below(16500)))
		var l []written
		for range 60 {
			switch r.below(8) {
			case 0:
				p.Add(strings.Repeat(string([]byte{byte(r.below(256))}), r.below(300)))
			case 1:
				p.Name(names[r.below(len(names))])
			default:
				c := all[r.below(len(all))]
				if len(c.d) > 1000 && r.below(20) > 0 {
					continue
				}
				mark := p.Mark()
				if err := Put(p, c.kind, c.d); err != api.OK {
					t.Fatalf("seed %d: Put of %d, %s = %d", seed, c.kind, short(c.d), err)
				}
				l = append(l, written{mark, p.Len() - mark, c})
				p.Close(mark)
			}
		}
		s := p.Out()
		for _, w := range l {
			takes(t, s, w.at, w.many, w.kind, w.d)
		}
	}
}

// cutName returns the name at the front of d, and what is behind it.
func cutName(d string) (string, string, bool) {
	for i := range min(len(d), 255) + 1 {
		if name.May(d[:i]) {
			return d[:i], d[i:], true
		}
	}
	return "", "", false
}

// plainMay tells whether d are data of a type, worked out from the words of the document alone.
func plainMay(kind uint16, d string) bool {
	if len(d) > 65535 {
		return false
	}
	switch kind {
	case api.A:
		return len(d) == 4
	case api.AAAA:
		return len(d) == 16
	case api.NS, api.CNAME, api.PTR:
		return name.May(d)
	case api.MX:
		return len(d) > 2 && name.May(d[2:])
	case api.SOA:
		_, rest, _ := cutName(d)
		_, rest, ok := cutName(rest)
		return ok && len(rest) == 20
	case api.TXT:
		many := 0
		for d != "" && len(d) > int(d[0]) {
			d = d[1+int(d[0]):]
			many++
		}
		return d == "" && many > 0
	}
	return true
}

// plainTake decodes data in the same way.
func plainTake(s string, at, many int, kind uint16) (string, bool) {
	if at < 0 || many < 0 || at > len(s) || many > len(s)-at {
		return "", false
	}
	end := at + many
	switch kind {
	case api.NS, api.CNAME, api.PTR:
		n, next, err := wire.Take(s, at)
		return n, err == api.OK && next == end
	case api.MX:
		if many < 2 {
			return "", false
		}
		n, next, err := wire.Take(s, at+2)
		return s[at:at+2] + n, err == api.OK && next == end
	case api.SOA:
		first, next, err := wire.Take(s, at)
		if err != api.OK {
			return "", false
		}
		second, next, err := wire.Take(s, next)
		if err != api.OK || next+20 != end {
			return "", false
		}
		return first + second + s[next:end], true
	}
	return s[at:end], plainMay(kind, s[at:end])
}

// FuzzData holds May, Put and Target against the plain functions, and reads back what was put: P1, P4.1, P4.3, P4.4.
func FuzzData(f *testing.F) {
	for _, c := range append(data(), notData()...) {
		if len(c.d) < 1000 {
			f.Add(c.kind, c.d)
		}
	}
	f.Fuzz(func(t *testing.T, kind uint16, d string) {
		p := wire.New()
		p.Name(wwwAb)
		if May(kind, d) != plainMay(kind, d) {
			t.Fatalf("May(%d, %s) = %t", kind, short(d), May(kind, d))
		}
		n, ok := Target(kind, d)
		if !May(kind, d) {
			if err := Put(p, kind, d); err != api.ErrArg || p.Out() != wwwAb || n != "" || ok {
				t.Fatalf("of %d, %s: Put = %d, Target = %s, %t", kind, short(d), err, short(n), ok)
			}
			return
		}
		if err := Put(p, kind, d); err != api.OK {
			t.Fatalf("Put of %d, %s = %d", kind, short(d), err)
		}
		takes(t, p.Out(), len(wwwAb), p.Len()-len(wwwAb), kind, d)
		takes(t, d, 0, len(d), kind, d)
		want := ""
		switch kind {
		case api.NS, api.CNAME, api.PTR:
			want = d
		case api.MX:
			want = d[2:]
		}
		if n != want || ok != (want != "") {
			t.Fatalf("Target(%d, %s) = %s, %t", kind, short(d), short(n), ok)
		}
	})
}

// FuzzTake holds Take against plainTake, for any bytes: P1 and P4.2. What is taken are data.
func FuzzTake(f *testing.F) {
	for _, c := range encodings {
		f.Add("\x01q\x00"+c.code+c.after, 3, len(c.code), c.kind)
	}
	f.Add("\x05\xc0\x00abc\x00", 1, 2, uint16(api.NS))
	f.Add("\x01a\x00\x02bc\x03def", 0, 10, uint16(api.TXT))
	f.Add("abc", math.MaxInt, math.MaxInt, uint16(99))
	f.Add("abc", 3, 0, uint16(99))
	f.Fuzz(func(t *testing.T, s string, at, many int, kind uint16) {
		want, ok := plainTake(s, at, many, kind)
		if !ok {
			refuses(t, s, at, many, kind)
			return
		}
		takes(t, s, at, many, kind, want)
		if d, _ := Take(s, at, many, kind); !May(kind, d) {
			t.Fatalf("Take(%s, %d, %d, %d) = %s, which are no data", short(s), at, many, kind, short(d))
		}
	})
}

func ExamplePut() {
	p := wire.New()
	p.Name("\x02ab\x00")
	at := p.Len()
	err := Put(p, api.MX, "\x00\x0a\x02ab\x00")
	fmt.Printf("%d %q\n", err, p.Out()[at:])
	d, err := Take(p.Out(), at, p.Len()-at, api.MX)
	fmt.Printf("%q %d\n", d, err)
	n, ok := Target(api.MX, d)
	fmt.Printf("%q %t\n", n, ok)
	// Output:
	// 0 "\x00\n\xc0\x00"
	// "\x00\n\x02ab\x00" 0
	// "\x02ab\x00" true
}
