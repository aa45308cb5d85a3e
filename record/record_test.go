package record

import (
	"fmt"
	"math"
	"strings"
	"testing"

	"derrick/api"
	"derrick/name"
	"derrick/rdata"
	"derrick/wire"
)

const (
	root  = "\x00"
	ab    = "\x02ab\x00"
	cAb   = "\x01c\x02ab\x00"
	wwwAb = "\x03www\x02ab\x00"
	sixty = "\x3cxxxxxxxxxxxxxxxxxxxxxxxxxxxxxxxxxxxxxxxxxxxxxxxxxxxxxxxxxxxx" // a label of 60 bytes, with its length
	deep  = sixty + sixty + sixty + sixty
)

// twenty is the end of an SOA. Bytes of it would be uppercase letters, lengths and pointers in a name.
const twenty = "ABCD\x00\x01\x02\x03\xc0\x00\xc0\x01\xff\xfe\x3f\x40xyZ!"

// name255 and name256 are the longest name and one that is too long by a byte.
const (
	name255 = deep + "\x09nnnnnnnnn\x00"
	name256 = deep + "\x0annnnnnnnnn\x00"
)

// names are names of all kinds, also such with bytes in a label that would be lengths or pointers.
var names = []string{root, "\x01a\x00", ab, cAb, wwwAb, name255, "\x04\x00\xc0.\\\x00", "\x02\xc0\x00\x00", "\x03\x02ab\x00"}

// notNames are bytes that are no name: uppercase letters, pointers, too few bytes and too many among them.
var notNames = []string{
	"", "a", "ab.", "\x01", "\x01a", "\x02a\x00", "\x02ab", root + root, ab + "x", ab + root, root + ab, ab + ab,
	"\x01A\x00", "\x02ab\x01Z\x00", "\x02Ab\x00", "\xc0\x00", "\x01a\xc0\x00", "\x40" + strings.Repeat("y", 64) + "\x00", "\x80\x00", name256, name255 + root,
}

// numbers16 and numbers32 are numbers at which a byte that is lost or swapped shows.
var (
	numbers16 = []uint16{0, 1, 2, 255, 256, 258, 0x7fff, 0x8000, 0xfffe, 0xffff}
	numbers32 = []uint32{0, 1, 5, 255, 256, 0xffff, 0x10000, 0x01020304, 0x7fffffff, 0x80000000, 0xfffffffe, 0xffffffff}
)

type datum struct {
	kind uint16
	d    string
}

// ordinary are data of each type that the document names, and of others. Their names have no parent in common, so that
// they are written whole in a new pack.
var ordinary = []datum{
	{api.A, "\x01\x02\x03\x04"},
	{api.NS, ab},
	{api.CNAME, wwwAb},
	{api.SOA, ab + "\x02xy\x00" + twenty},
	{api.PTR, cAb},
	{api.MX, "\x00\x0a" + ab},
	{api.TXT, "\x01a\x00\x03bCd"},
	{api.AAAA, "0123456789ABCDEF"},
	{99, "any bytes"},
	{33, "\x00\x01\x00\x02\x00\x03" + ab},
}

// edges are data at the edges of their types.
func edges() []datum {
	return []datum{
		{api.NS, root}, {api.CNAME, name255}, {api.PTR, "\x02\xc0\x00\x00"}, {api.MX, "AZ" + root}, {api.MX, "\xff\xff" + name255},
		{api.SOA, root + root + strings.Repeat("\x00", 20)}, {api.SOA, name255 + root + twenty},
		{api.A, "\xc0\x00ZZ"}, {api.AAAA, strings.Repeat("\xc0\x00", 8)}, {api.TXT, "\x00"}, {api.TXT, strings.Repeat("\x00", 65535)},
		{0, ""}, {0, "\x00"}, {99, ""}, {255, "\x01A\x00"}, {41, ""}, {256 + api.NS, "\x02AB"}, {65535, ""}, {65535, strings.Repeat("O", 65535)},
	}
}

// notData are bytes that are no data of the type.
func notData() []datum {
	return []datum{
		{api.A, ""}, {api.A, "abc"}, {api.A, "abcde"}, {api.AAAA, ""}, {api.AAAA, strings.Repeat("a", 15)}, {api.AAAA, strings.Repeat("a", 17)},
		{api.NS, ""}, {api.NS, "\x02AB\x00"}, {api.NS, ab + root}, {api.CNAME, "\xc0\x00"}, {api.CNAME, name256}, {api.PTR, "\x02ab"}, {api.PTR, "ab."},
		{api.MX, ""}, {api.MX, "\x00\x0a"}, {api.MX, ab}, {api.MX, "\x00\x0a\xc0\x00"}, {api.MX, "\x00\x0a\x01A\x00"}, {api.MX, "\x00\x0a" + cAb + "!"},
		{api.SOA, ""}, {api.SOA, cAb + twenty}, {api.SOA, cAb + cAb + twenty[:19]}, {api.SOA, cAb + cAb + twenty + "!"}, {api.SOA, cAb + "\x01C\x00" + twenty},
		{api.TXT, ""}, {api.TXT, "\x01"}, {api.TXT, "\x02a"}, {api.TXT, strings.Repeat("\x00", 65536)}, {api.TXT, "abc"},
		{0, strings.Repeat("o", 65536)}, {99, strings.Repeat("o", 65536)}, {65535, strings.Repeat("o", 131072)},
	}
}

// rr returns a record of class IN, with a time to live of four different bytes.
func rr(n string, c datum) api.RR {
	return api.RR{Name: n, Type: c.kind, Class: api.IN, TTL: 0x01020304, Data: c.d}
}

// valid are records of each type and each edge.
func valid() []api.RR {
	var l []api.RR
	for _, c := range append(edges(), ordinary...) {
		l = append(l, rr(ab, c), rr(root, c), rr(name255, c))
	}
	for _, n := range names {
		l = append(l, rr(n, ordinary[0]), rr(n, ordinary[3]), rr(n, datum{99, n}), rr(n, datum{api.NS, n}))
	}
	for _, x := range numbers16 {
		l = append(l, api.RR{Name: cAb, Type: api.MX, Class: x, TTL: 7, Data: "\x00\x0a" + ab})
	}
	for _, x := range numbers32 {
		l = append(l, api.RR{Name: cAb, Type: api.A, Class: api.IN, TTL: x, Data: "\x05\x06\x07\x08"})
	}
	return append(l, api.RR{Name: root}, api.RR{Name: root, Type: 65535, Class: 65535, TTL: math.MaxUint32, Data: "\xff"})
}

// invalid are records that must not be put.
func invalid() []api.RR {
	l := []api.RR{{}, {Name: "", Type: 99}}
	for _, n := range notNames {
		l = append(l, rr(n, ordinary[0]), rr(n, datum{99, ""}), rr(n, datum{api.A, "abc"}), rr(n, datum{api.NS, ab}))
	}
	for _, c := range notData() {
		l = append(l, rr(ab, c), rr(root, c), rr(wwwAb, c))
	}
	return l
}

// two and four encode numbers, worked out from the words of the document alone.
func two(n int) string {
	return string([]byte{byte(n >> 8), byte(n)})
}

func four(n uint32) string {
	return two(int(n>>16)) + two(int(n&0xffff))
}

// plain is the encoding of a record without a pointer.
func plain(r api.RR) string {
	return r.Name + two(int(r.Type)) + two(int(r.Class)) + four(r.TTL) + two(len(r.Data)) + r.Data
}

// short keeps a report readable.
func short(x any) string {
	s := fmt.Sprintf("%#v", x)
	if len(s) > 400 {
		return fmt.Sprintf("%s.. (%d bytes)", s[:400], len(s))
	}
	return s
}

func putsQ(t *testing.T, p *wire.Pack, q api.Question, want string) {
	t.Helper()
	before := p.Out()
	if err := PutQ(p, q); err != api.OK || p.Out() != before+want {
		t.Errorf("PutQ of %s = %d: the pack is %s, want %s", short(q), err, short(p.Out()), short(before+want))
	}
}

func puts(t *testing.T, p *wire.Pack, r api.RR, want string) {
	t.Helper()
	before := p.Out()
	if err := Put(p, r); err != api.OK || p.Out() != before+want {
		t.Errorf("Put of %s = %d: the pack is %s, want %s", short(r), err, short(p.Out()), short(before+want))
	}
}

func takesQ(t *testing.T, s string, at int, want api.Question, end int) {
	t.Helper()
	if q, next, err := TakeQ(s, at); q != want || next != end || err != api.OK {
		t.Errorf("TakeQ(%s, %d) = %s, %d, %d, want %s, %d", short(s), at, short(q), next, err, short(want), end)
	}
}

func takes(t *testing.T, s string, at int, want api.RR, end int) {
	t.Helper()
	if r, next, err := Take(s, at); r != want || next != end || err != api.OK {
		t.Errorf("Take(%s, %d) = %s, %d, %d, want %s, %d", short(s), at, short(r), next, err, short(want), end)
	}
}

func refusesQ(t *testing.T, s string, at int) {
	t.Helper()
	if q, next, err := TakeQ(s, at); q != (api.Question{}) || next != 0 || err != api.ErrForm {
		t.Errorf("TakeQ(%s, %d) = %s, %d, %d, want ErrForm", short(s), at, short(q), next, err)
	}
}

func refuses(t *testing.T, s string, at int) {
	t.Helper()
	if r, next, err := Take(s, at); r != (api.RR{}) || next != 0 || err != api.ErrForm {
		t.Errorf("Take(%s, %d) = %s, %d, %d, want ErrForm", short(s), at, short(r), next, err)
	}
}

func TestMayQ(t *testing.T) { // P5.1
	for _, x := range numbers16 {
		for _, n := range names {
			if q := (api.Question{Name: n, Type: x, Class: ^x}); !MayQ(q) {
				t.Errorf("MayQ(%s) = false", short(q))
			}
		}
		for _, n := range notNames {
			if q := (api.Question{Name: n, Type: x, Class: ^x}); MayQ(q) {
				t.Errorf("MayQ(%s) = true", short(q))
			}
		}
	}
}

func TestMay(t *testing.T) { // P5.1
	for _, r := range valid() {
		if !May(r) {
			t.Errorf("May(%s) = false", short(r))
		}
	}
	for _, r := range invalid() {
		if May(r) {
			t.Errorf("May(%s) = true", short(r))
		}
	}
}

func TestPutQOfNewNames(t *testing.T) { // P5.1
	putsQ(t, wire.New(), api.Question{Name: ab, Type: api.MX, Class: api.IN}, "\x02ab\x00\x00\x0f\x00\x01")
	putsQ(t, new(wire.Pack), api.Question{Name: ab, Type: api.A, Class: 3}, "\x02ab\x00\x00\x01\x00\x03")
	for _, n := range names {
		for _, kind := range append(numbers16, api.A, api.NS, api.CNAME, api.SOA, api.PTR, api.MX, api.TXT, api.AAAA) {
			for _, class := range numbers16 {
				q := api.Question{Name: n, Type: kind, Class: class}
				putsQ(t, wire.New(), q, n+two(int(kind))+two(int(class)))
			}
		}
	}
}

func TestPutOfTheExample(t *testing.T) { // P5.1
	r := api.RR{Name: ab, Type: api.A, Class: api.IN, TTL: 5, Data: "\x01\x02\x03\x04"}
	const want = "\x02ab\x00" + "\x00\x01" + "\x00\x01" + "\x00\x00\x00\x05" + "\x00\x04" + "\x01\x02\x03\x04"
	puts(t, wire.New(), r, want)
	puts(t, new(wire.Pack), r, want)
}

func TestPutOfNewNames(t *testing.T) { // P5.1
	// A record with one of these names makes none of the names in these data known.
	for _, c := range append(edges(), ordinary...) {
		if c.kind != api.SOA {
			puts(t, wire.New(), rr("\x02zz\x00", c), plain(rr("\x02zz\x00", c)))
		}
		puts(t, wire.New(), rr(root, c), plain(rr(root, c)))
	}
	for _, n := range names {
		puts(t, wire.New(), rr(n, ordinary[0]), plain(rr(n, ordinary[0])))
		puts(t, wire.New(), rr(n, datum{99, n}), plain(rr(n, datum{99, n})))
	}
	for _, x := range numbers16 {
		r := api.RR{Name: ab, Type: api.TXT, Class: x, TTL: 9, Data: "\x01a"}
		puts(t, wire.New(), r, "\x02ab\x00\x00\x10"+two(int(x))+"\x00\x00\x00\x09\x00\x02\x01a")
	}
	for _, x := range numbers32 {
		r := api.RR{Name: ab, Type: api.TXT, Class: api.IN, TTL: x, Data: "\x01a"}
		puts(t, wire.New(), r, "\x02ab\x00\x00\x10\x00\x01"+four(x)+"\x00\x02\x01a")
	}
}

func TestPutOfEveryType(t *testing.T) { // P5.1, P5.2
	isNamed := map[int]bool{api.A: true, api.NS: true, api.CNAME: true, api.SOA: true, api.PTR: true, api.MX: true, api.TXT: true, api.AAAA: true}
	for kind := range 65536 {
		if isNamed[kind] {
			continue
		}
		p := wire.New()
		r := api.RR{Name: ab, Type: uint16(kind), Class: 0xfe01, TTL: 0xfffefdfc, Data: "\x02ab\x00"}
		// What is no name by its type stays as it is, even if its bytes are one that is known.
		puts(t, p, r, "\x02ab\x00"+two(kind)+"\xfe\x01\xff\xfe\xfd\xfc\x00\x04\x02ab\x00")
		takes(t, p.Out(), 0, r, p.Len())
	}
}

func TestPutOfNoDataAndOfMost(t *testing.T) { // P5.1, P5.2
	for _, kind := range []uint16{0, 99, 65535} {
		for many, size := range map[int]string{0: "\x00\x00", 1: "\x00\x01", 255: "\x00\xff", 256: "\x01\x00", 65534: "\xff\xfe", 65535: "\xff\xff"} {
			r := rr(ab, datum{kind, strings.Repeat("M", many)})
			p := wire.New()
			puts(t, p, r, ab+two(int(kind))+"\x00\x01\x01\x02\x03\x04"+size+r.Data)
			takes(t, p.Out(), 0, r, p.Len())
			takes(t, p.Out()+"\x00", 0, r, p.Len())
		}
	}
	most := rr(root, datum{api.TXT, strings.Repeat("\x00", 65535)})
	p := wire.New()
	puts(t, p, most, plain(most))
	takes(t, p.Out(), 0, most, p.Len())
}

// known are records behind www.ab. at offset 0, with the encoding of their name, and of their data with their number.
var known = []struct {
	n, code string
	datum
	data string
}{
	{wwwAb, "\xc0\x00", datum{api.A, "\x01\x02\x03\x04"}, "\x00\x04\x01\x02\x03\x04"},
	{wwwAb, "\xc0\x00", datum{api.NS, ab}, "\x00\x02\xc0\x04"},
	{wwwAb, "\xc0\x00", datum{api.CNAME, wwwAb}, "\x00\x02\xc0\x00"},
	{ab, "\xc0\x04", datum{api.PTR, cAb}, "\x00\x04\x01c\xc0\x04"},
	{ab, "\xc0\x04", datum{api.MX, "\x00\x0a" + wwwAb}, "\x00\x04\x00\x0a\xc0\x00"},
	{ab, "\xc0\x04", datum{api.NS, root}, "\x00\x01\x00"},
	{root, root, datum{api.NS, ab}, "\x00\x02\xc0\x04"},
	{"\x02xy\x00", "\x02xy\x00", datum{api.SOA, wwwAb + "\x01x\x02ab\x00" + twenty}, "\x00\x1a\xc0\x00\x01x\xc0\x04" + twenty},
	// The name of the record is known to its data: it is at offset 8, and its labels from 8, 10 or 13 on.
	{cAb, "\x01c\xc0\x04", datum{api.NS, cAb}, "\x00\x02\xc0\x08"},
	{"\x01d\x02xy\x00", "\x01d\x02xy\x00", datum{api.CNAME, "\x02xy\x00"}, "\x00\x02\xc0\x0a"},
	{"\x01d\x02xy\x00", "\x01d\x02xy\x00", datum{api.MX, "\x00\x0a\x01e\x02xy\x00"}, "\x00\x06\x00\x0a\x01e\xc0\x0a"},
	// The second name in the data leads to the first one, which is behind eight bytes, the number and the name.
	{"\x01q\x00", "\x01q\x00", datum{api.SOA, "\x02xy\x00\x01e\x02xy\x00" + twenty}, "\x00\x1c\x02xy\x00\x01e\xc0\x15" + twenty},
	{root, root, datum{api.SOA, "\x02xy\x00\x02xy\x00" + twenty}, "\x00\x1a\x02xy\x00\xc0\x13" + twenty},
	// Data without a name in them.
	{ab, "\xc0\x04", datum{api.TXT, wwwAb}, "\x00\x08" + wwwAb},
	{ab, "\xc0\x04", datum{99, wwwAb}, "\x00\x08" + wwwAb},
	{ab, "\xc0\x04", datum{99, ""}, "\x00\x00"},
	{ab, "\xc0\x04", datum{api.AAAA, wwwAb + wwwAb}, "\x00\x10" + wwwAb + wwwAb},
}

func TestPutOfKnownNames(t *testing.T) { // P5.1, P5.2, P5.4
	for _, c := range known {
		p := wire.New()
		p.Name(wwwAb)
		r := rr(c.n, c.datum)
		want := c.code + two(int(c.kind)) + "\x00\x01\x01\x02\x03\x04" + c.data
		puts(t, p, r, want)
		takes(t, p.Out(), 8, r, 8+len(want))
		takes(t, p.Out()+"\xff", 8, r, 8+len(want))
	}
}

func TestPutQOfKnownNames(t *testing.T) { // P5.1, P5.2, P5.4
	for _, c := range []struct{ n, code string }{{wwwAb, "\xc0\x00"}, {ab, "\xc0\x04"}, {cAb, "\x01c\xc0\x04"}, {root, root}, {"\x02xy\x00", "\x02xy\x00"}} {
		p := wire.New()
		p.Name(wwwAb)
		q := api.Question{Name: c.n, Type: 0xfe01, Class: 0x0203}
		putsQ(t, p, q, c.code+"\xfe\x01\x02\x03")
		takesQ(t, p.Out(), 8, q, 8+len(c.code)+4)
	}
}

func TestNamesThatWerePutAreKnown(t *testing.T) { // P5.1
	p := wire.New()
	putsQ(t, p, api.Question{Name: cAb, Type: api.NS, Class: api.IN}, cAb+"\x00\x02\x00\x01")
	puts(t, p, api.RR{Name: cAb, Type: api.NS, Class: api.IN, Data: wwwAb}, "\xc0\x00\x00\x02\x00\x01\x00\x00\x00\x00\x00\x06\x03www\xc0\x02")
	puts(t, p, api.RR{Name: wwwAb, Type: api.A, Class: api.IN, Data: "\x02xy\x00"}, "\xc0\x16\x00\x01\x00\x01\x00\x00\x00\x00\x00\x04\x02xy\x00")
	puts(t, p, api.RR{Name: "\x02xy\x00", Type: 99, Class: api.IN}, "\x02xy\x00\x00\x63\x00\x01\x00\x00\x00\x00\x00\x00")
	putsQ(t, p, api.Question{Name: "\x02xy\x00"}, "\xc0\x2c\x00\x00\x00\x00")
}

func TestPutBehind16384(t *testing.T) { // P5.1, P5.4
	p := wire.New()
	p.Name(ab)
	p.Add(strings.Repeat("-", 16384))
	at := p.Len()
	r := rr(cAb, datum{api.SOA, cAb + cAb + twenty})
	puts(t, p, r, "\x01c\xc0\x00\x00\x06\x00\x01\x01\x02\x03\x04\x00\x1c\x01c\xc0\x00\x01c\xc0\x00"+twenty)
	takes(t, p.Out(), at, r, p.Len())
	q := api.Question{Name: cAb, Type: 7, Class: 8}
	at = p.Len()
	putsQ(t, p, q, "\x01c\xc0\x00\x00\x07\x00\x08")
	takesQ(t, p.Out(), at, q, p.Len())
}

func TestPutToNoPack(t *testing.T) { // P5.1, P1
	for _, r := range append(valid(), invalid()...) {
		if err := Put(nil, r); err != api.ErrArg {
			t.Errorf("Put(nil, %s) = %d", short(r), err)
		}
		if err := PutQ(nil, Key(r)); err != api.ErrArg {
			t.Errorf("PutQ(nil, %s) = %d", short(Key(r)), err)
		}
	}
}

func TestPutRefuses(t *testing.T) { // P5.1, R1
	p := wire.New()
	p.Name(ab)
	p.Add("\xc0\xff")
	before := p.Out()
	for _, r := range invalid() {
		if err := Put(p, r); err != api.ErrArg || p.Out() != before || p.Len() != len(before) {
			t.Fatalf("Put of %s = %d: the pack is %s", short(r), err, short(p.Out()))
		}
	}
	for _, n := range notNames {
		q := api.Question{Name: n, Type: api.A, Class: api.IN}
		if err := PutQ(p, q); err != api.ErrArg || p.Out() != before || p.Len() != len(before) {
			t.Fatalf("PutQ of %s = %d: the pack is %s", short(q), err, short(p.Out()))
		}
	}
	// Names in what was refused did not become known: of wwwAb and cAb all but ab is written.
	puts(t, p, rr(wwwAb, datum{api.NS, cAb}), "\x03www\xc0\x00\x00\x02\x00\x01\x01\x02\x03\x04\x00\x04\x01c\xc0\x00")
}

func TestPacksAreSeparate(t *testing.T) { // R4
	p, q := wire.New(), wire.New()
	r := rr(ab, datum{99, ""})
	puts(t, p, r, plain(r))
	puts(t, q, r, plain(r))
	puts(t, p, r, "\xc0\x00\x00\x63\x00\x01\x01\x02\x03\x04\x00\x00")
	if q.Out() != plain(r) {
		t.Errorf("another pack became %q", q.Out())
	}
}

func TestTakeQ(t *testing.T) { // P5.2
	for _, n := range names {
		for _, x := range numbers16 {
			q := api.Question{Name: n, Type: x, Class: ^x}
			code := n + two(int(x)) + two(int(^x))
			takesQ(t, code, 0, q, len(code))
			takesQ(t, code+"\x00", 0, q, len(code))
			takesQ(t, "\xc0\xff-"+code, 3, q, 3+len(code))
			takesQ(t, "\xc0\xff-"+code+"\xc0", 3, q, 3+len(code))
		}
	}
}

func TestTake(t *testing.T) { // P5.2
	for _, r := range valid() {
		code := plain(r)
		takes(t, code, 0, r, len(code))
		takes(t, code+"\x00", 0, r, len(code))
		takes(t, "\xc0\xff-"+code, 3, r, 3+len(code))
		takes(t, "\xc0\xff-"+code+"\xc0", 3, r, 3+len(code))
	}
}

func TestTakeFoldsNames(t *testing.T) { // P5.2
	takesQ(t, "\x01C\x02aB\x00\x41\x42\x43\x44", 0, api.Question{Name: cAb, Type: 0x4142, Class: 0x4344}, 10)
	takes(t, "\x02AB\x00\x00\x0f\x41\x42ABCD\x00\x06\x41\x42\x01C\xc0\x00", 0, api.RR{Name: ab, Type: api.MX, Class: 0x4142, TTL: 0x41424344, Data: "\x41\x42" + cAb}, 20)
	takes(t, "\x02AB\x00\x00\x63\x00\x01\x00\x00\x00\x00\x00\x02AB", 0, api.RR{Name: ab, Type: 99, Class: 1, Data: "AB"}, 16)
}

// TestTakeReadsNamesInTheWholeString has pointers to before the record, and into it.
func TestTakeReadsNamesInTheWholeString(t *testing.T) { // P5.2
	s := "-" + cAb + "\xc0\x03\x00\x02\x00\x01\x00\x00\x00\x07\x00\x02\xc0\x01" + "\xff"
	takes(t, s, 7, api.RR{Name: ab, Type: api.NS, Class: 1, TTL: 7, Data: cAb}, 21)
	takesQ(t, s, 7, api.Question{Name: ab, Type: api.NS, Class: 1}, 13)
	// The name in the data leads to the name of the record, and to the upper byte of its type.
	takes(t, ab+"\x00\x02\x00\x01\x00\x00\x00\x07\x00\x02\xc0\x00", 0, api.RR{Name: ab, Type: api.NS, Class: 1, TTL: 7, Data: ab}, 16)
	takes(t, ab+"\x00\x02\x00\x01\x00\x00\x00\x07\x00\x02\xc0\x04", 0, api.RR{Name: ab, Type: api.NS, Class: 1, TTL: 7, Data: root}, 16)
	// To a label that covers the record, and ends behind it.
	const inner = "\x00\x00\x02\x00\x01\x00\x00\x00\x07\x00\x02\xc0\x00"
	takes(t, "\x10"+inner+"XYZ\x00", 1, api.RR{Name: root, Type: api.NS, Class: 1, TTL: 7, Data: "\x10" + inner + "xyz\x00"}, 14)
	refuses(t, "\x10"+inner+"XYZ", 1)
	refuses(t, "\x10"+inner, 1)
	// To itself, and to behind it.
	refuses(t, ab+"\x00\x02\x00\x01\x00\x00\x00\x07\x00\x02\xc0\x0e", 0)
	refuses(t, ab+"\x00\x02\x00\x01\x00\x00\x00\x07\x00\x02\xc0\x10\x00", 0)
	refuses(t, "\xc0\x00\x00\x63\x00\x01\x00\x00\x00\x07\x00\x00", 0)
	refuses(t, "\xc0\x0c\x00\x63\x00\x01\x00\x00\x00\x07\x00\x00\x00", 0)
	refusesQ(t, "\xc0\x00\x00\x63\x00\x01", 0)
	refusesQ(t, "\xc0\x06\x00\x63\x00\x01\x00", 0)
}

func TestTakeQOfWhatIsCutShort(t *testing.T) { // P5.2, R1
	for _, n := range []string{root, ab, wwwAb, "\xc0\x00", "\x01c\xc0\x00", name255} {
		s := ab + n + "\x00\x01\x00\x01"
		if _, next, err := TakeQ(s, len(ab)); next != len(s) || err != api.OK {
			t.Errorf("TakeQ(%s, 4): %d, %d", short(s), next, err)
		}
		for end := len(ab); end < len(s); end++ {
			refusesQ(t, s[:end], len(ab))
		}
	}
}

// codes are encodings of data of each type, some with a pointer to ab. at offset 0.
var codes = []datum{
	{api.A, "\x01\x02\x03\x04"}, {api.AAAA, "0123456789abcdef"}, {api.NS, ab}, {api.NS, "\xc0\x00"}, {api.CNAME, root}, {api.CNAME, "\x01c\xc0\x00"},
	{api.PTR, cAb}, {api.MX, "\x00\x0a" + ab}, {api.MX, "\x00\x0a\xc0\x00"}, {api.SOA, root + root + strings.Repeat("\x00", 20)},
	{api.SOA, "\x01c\xc0\x00\xc0\x00" + twenty}, {api.TXT, "\x02xy"}, {api.TXT, "\x02xy\x05vwxyz"}, {99, ""}, {99, "any bytes"}, {0, "\x00"}, {65535, "\xff\xff"},
}

func TestTakeOfWhatIsCutShort(t *testing.T) { // P5.2, R1
	for _, c := range codes {
		for _, n := range []string{root, "\xc0\x00", wwwAb} {
			s := ab + n + two(int(c.kind)) + "\x00\x01\x00\x00\x00\x05" + two(len(c.d)) + c.d
			if _, next, err := Take(s, len(ab)); next != len(s) || err != api.OK {
				t.Errorf("Take(%s, 4): %d, %d", short(s), next, err)
			}
			for end := len(ab); end < len(s); end++ {
				refuses(t, s[:end], len(ab))
			}
		}
	}
	most := plain(rr(ab, datum{99, strings.Repeat("m", 65535)}))
	refuses(t, most[:len(most)-1], 0)
	refuses(t, most[:len(most)-65535], 0)
}

func TestTakeOfAWrongNumberOfBytes(t *testing.T) { // P5.2, R1
	for _, c := range codes {
		head := ab + "\xc0\x00" + two(int(c.kind)) + "\x00\x01\x00\x00\x00\x05"
		for _, many := range []int{len(c.d) - 1, len(c.d) + 1, len(c.d) + 2, len(c.d) + 8} {
			s := head + two(many) + c.d + "\xff\xff\xff\xff\xff\xff\xff\xff"
			switch {
			case many < 0: // there is no byte less than none
			case c.kind == 0 || c.kind == 99 || c.kind == 65535: // any number of bytes are data
				end := len(head) + 2 + many
				takes(t, s, 4, api.RR{Name: ab, Type: c.kind, Class: 1, TTL: 5, Data: s[len(head)+2 : end]}, end)
			default:
				refuses(t, s, 4)
			}
		}
		// One more than the string has, and as many as can be written.
		refuses(t, head+two(len(c.d)+1)+c.d, 4)
		refuses(t, head+"\xff\xff"+c.d, 4)
	}
}

func TestTakeOfNoName(t *testing.T) { // P5.2, R1
	const rest = "\x00\x63\x00\x01\x00\x00\x00\x05\x00\x00"
	for _, n := range []string{"\x40" + strings.Repeat("y", 64) + root, "\x80\x00", "\xbf\x00", "\x3fa", "\xc0\x00", "\xff\xff", name256} {
		refuses(t, n+rest, 0)
		refusesQ(t, n+rest, 0)
		// The same in the data, at offset 14, where the pointer must lead to itself again.
		d := strings.ReplaceAll(n, "\xc0\x00", "\xc0\x0e")
		refuses(t, ab+"\x00\x02\x00\x01\x00\x00\x00\x05"+two(len(d))+d, 0)
	}
}

func TestTakeAtOffsetsOutsideTheString(t *testing.T) { // P5.2, R1, P1
	r := plain(rr(root, datum{99, ""}))
	for _, s := range []string{"", "\x00", r, r + r} {
		for _, at := range []int{math.MinInt, math.MinInt + 1, math.MinInt32, -len(s) - 1, -len(s), -12, -2, -1, len(s), len(s) + 1, len(s) + 1000, math.MaxInt32, math.MaxInt - 2, math.MaxInt - 1, math.MaxInt} {
			if at == 0 && s != "" {
				continue
			}
			refuses(t, s, at)
			refusesQ(t, s, at)
		}
	}
}

func TestSame(t *testing.T) { // P5.3
	base := api.RR{Name: cAb, Type: api.MX, Class: api.IN, TTL: 5, Data: "\x00\x0a" + ab}
	for _, x := range numbers32 {
		other := base
		other.TTL = x
		if !Same(base, other) || !Same(other, base) {
			t.Errorf("a time to live of %d makes another record", x)
		}
	}
	for _, change := range []func(*api.RR){
		func(r *api.RR) { r.Name = ab },
		func(r *api.RR) { r.Name = "\x01C\x02ab\x00" },
		func(r *api.RR) { r.Name = "" },
		func(r *api.RR) { r.Type++ },
		func(r *api.RR) { r.Type ^= 0x8000 },
		func(r *api.RR) { r.Class++ },
		func(r *api.RR) { r.Class ^= 0x8000 },
		func(r *api.RR) { r.Type, r.Class = r.Class, r.Type },
		func(r *api.RR) { r.Data += "!" },
		func(r *api.RR) { r.Data = "\x00\x0b" + ab },
		func(r *api.RR) { r.Data = "\x00\x0a\x02aB\x00" },
		func(r *api.RR) { r.Data = "" },
	} {
		other := base
		change(&other)
		if Same(base, other) || Same(other, base) {
			t.Errorf("Same(%s, %s) = true", short(base), short(other))
		}
		if !Same(other, other) {
			t.Errorf("%s is not the same as itself", short(other))
		}
	}
	if !Same(api.RR{}, api.RR{TTL: 1}) {
		t.Error("what is no record is not the same as itself")
	}
	// The bytes of the name and the data are not one string.
	if Same(api.RR{Name: "ab", Data: "c"}, api.RR{Name: "a", Data: "bc"}) {
		t.Error("bytes of the name count as bytes of the data")
	}
}

func TestKey(t *testing.T) { // P5.3
	for _, r := range append(valid(), invalid()...) {
		if got := Key(r); got.Name != r.Name || got.Type != r.Type || got.Class != r.Class {
			t.Errorf("Key(%s) = %s", short(r), short(got))
		}
	}
	if got := Key(api.RR{Name: "\x01A", Type: 0xfe01, Class: 0x0203, TTL: 9, Data: "d"}); got != (api.Question{Name: "\x01A", Type: 0xfe01, Class: 0x0203}) {
		t.Errorf("Key = %s", short(got))
	}
}

// rows is a sequence of numbers that looks irregular, and is the same in each run.
type rows uint32

func (r *rows) below(n int) int {
	*r = *r*1664525 + 1013904223
	return int(*r>>16) % n
}

// written is what was put from an offset on: a question or a record.
type written struct {
	at, end  int
	question bool
	api.RR
}

// fill puts questions and records into a pack, with other bytes between them.
func fill(t *testing.T, p *wire.Pack, r *rows, all []api.RR) []written {
	var l []written
	p.Add(strings.Repeat("\xc0", r.below(2)*r.below(16500)))
	for range 60 {
		w := written{at: p.Len(), RR: all[r.below(len(all))]}
		var err api.Errno
		switch kind := r.below(8); {
		case kind == 0:
			p.Add(strings.Repeat(string([]byte{byte(r.below(256))}), r.below(300)))
			continue
		case kind < 3:
			w.question = true
			err = PutQ(p, Key(w.RR))
		case len(w.Data) > 1000 && r.below(20) > 0:
			continue
		default:
			err = Put(p, w.RR)
		}
		if err != api.OK {
			t.Fatalf("Put of %s = %d", short(w.RR), err)
		}
		w.end = p.Len()
		l = append(l, w)
	}
	return l
}

func TestWhatWasPutIsTaken(t *testing.T) { // P5.4
	all := valid()
	for seed := range 100 {
		r := rows(seed)
		p := wire.New()
		l := fill(t, p, &r, all)
		s := p.Out()
		for _, w := range l {
			if w.question {
				takesQ(t, s, w.at, Key(w.RR), w.end)
				takesQ(t, s[:w.end], w.at, Key(w.RR), w.end)
				refusesQ(t, s[:w.end-1], w.at)
			} else {
				takes(t, s, w.at, w.RR, w.end)
				takes(t, s[:w.end], w.at, w.RR, w.end)
				refuses(t, s[:w.end-1], w.at)
			}
		}
	}
}

// plainTake decodes a record, worked out from the words of the document alone. It returns how far the question goes that
// it begins with, and the whole record; an end of 0 stands for none.
func plainTake(s string, at int) (api.RR, int, int) {
	n, next, err := wire.Take(s, at)
	if err != api.OK || len(s) < next+4 {
		return api.RR{}, 0, 0
	}
	number := func(from, many int) int {
		x := 0
		for i := range many {
			x = x*256 + int(s[from+i])
		}
		return x
	}
	r := api.RR{Name: n, Type: uint16(number(next, 2)), Class: uint16(number(next+2, 2))}
	if len(s) < next+10 {
		return r, next + 4, 0
	}
	r.TTL = uint32(number(next+4, 4))
	many := number(next+8, 2)
	d, err := rdata.Take(s, next+10, many, r.Type)
	if err != api.OK {
		return r, next + 4, 0
	}
	r.Data = d
	return r, next + 4, next + 10 + many
}

// FuzzRecord holds May and Put against the parts of which they consist, and reads back what was put: P1, P5.1 to P5.4.
func FuzzRecord(f *testing.F) {
	for _, r := range append(valid(), invalid()...) {
		if len(r.Data) < 1000 {
			f.Add("-", r.Name, r.Type, r.Class, r.TTL, r.Data)
		}
	}
	f.Fuzz(func(t *testing.T, before, n string, kind, class uint16, seconds uint32, d string) {
		p, want := wire.New(), wire.New()
		for _, x := range []*wire.Pack{p, want} {
			x.Add(before)
			x.Name(wwwAb)
		}
		begin := p.Len()
		r := api.RR{Name: n, Type: kind, Class: class, TTL: seconds, Data: d}
		if MayQ(Key(r)) != name.May(n) || May(r) != (name.May(n) && rdata.May(kind, d)) {
			t.Fatalf("of %s: MayQ %t, May %t", short(r), MayQ(Key(r)), May(r))
		}
		if !May(r) {
			if err := Put(p, r); err != api.ErrArg || p.Out() != want.Out() {
				t.Fatalf("Put of %s = %d, %s", short(r), err, short(p.Out()))
			}
			return
		}
		want.Name(n)
		want.Add(two(int(kind)) + two(int(class)) + four(seconds))
		want.Add("??")
		from := want.Len()
		rdata.Put(want, kind, d)
		code := want.Out()[:from-2] + two(want.Len()-from) + want.Out()[from:]
		if err := Put(p, r); err != api.OK || p.Out() != code {
			t.Fatalf("Put of %s = %d, %s, want %s", short(r), err, short(p.Out()), short(code))
		}
		takes(t, code, begin, r, len(code))
		at := p.Len()
		if err := PutQ(p, Key(r)); err != api.OK {
			t.Fatalf("PutQ of %s = %d", short(Key(r)), err)
		}
		takesQ(t, p.Out(), at, Key(r), p.Len())
	})
}

// FuzzTake holds TakeQ and Take against plainTake, for any bytes: P1 and P5.2. What is taken is valid.
func FuzzTake(f *testing.F) {
	for _, c := range codes {
		f.Add(ab+"\xc0\x00"+two(int(c.kind))+"\x00\x01\x00\x00\x00\x05"+two(len(c.d))+c.d+"-", 4)
	}
	f.Add("\x00\x00\x63\x00\x01\x00\x00\x00\x05\x00\x00", 0)
	f.Add("", math.MinInt)
	f.Add("\x00", math.MaxInt)
	f.Fuzz(func(t *testing.T, s string, at int) {
		r, endQ, end := plainTake(s, at)
		if endQ == 0 {
			refusesQ(t, s, at)
		} else {
			takesQ(t, s, at, Key(r), endQ)
		}
		if end == 0 {
			refuses(t, s, at)
			return
		}
		takes(t, s, at, r, end)
		if !May(r) {
			t.Fatalf("Take(%s, %d) = %s, which is no record", short(s), at, short(r))
		}
	})
}

func ExamplePut() {
	p := wire.New()
	err := Put(p, api.RR{Name: "\x02ab\x00", Type: api.NS, Class: api.IN, TTL: 5, Data: "\x01c\x02ab\x00"})
	fmt.Printf("%d %q\n", err, p.Out())
	r, next, err := Take(p.Out(), 0)
	fmt.Printf("%q %d %q %d %d\n", r.Name, r.TTL, r.Data, next, err)
	// Output:
	// 0 "\x02ab\x00\x00\x02\x00\x01\x00\x00\x00\x05\x00\x04\x01c\xc0\x00"
	// "\x02ab\x00" 5 "\x01c\x02ab\x00" 18 0
}
