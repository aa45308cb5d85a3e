package message

import (
	"fmt"
	"math"
	"slices"
	"strings"
	"testing"

	"derrick/api"
	"derrick/record"
	"derrick/wire"
)

const (
	root  = "\x00"
	ab    = "\x02ab\x00"
	cAb   = "\x01c\x02ab\x00"
	wwwAb = "\x03www\x02ab\x00"
	xy    = "\x02xy\x00"
)

// codes are numbers that Op and Rcode have room for, wrongCodes such that they have not. Some of those look like one
// that there is room for, if only their lowest bits are regarded.
var (
	codes      = []int{0, 1, 2, 3, 4, 5, 7, 8, 10, 14, 15}
	wrongCodes = []int{16, 17, 31, 255, 256, 65536, 1 << 32, math.MaxInt, -1, -2, -15, -16, -65536, -1 << 32, math.MinInt}
)

// notNames are bytes that are no name.
var notNames = []string{"", "ab.", "\x02ab", "\x02a\x00", ab + root, "\x02Ab\x00", "\xc0\x0c", "\x40" + strings.Repeat("y", 64) + root}

// wrongRecords are records that are not valid: without a name, or with data that are none of their type.
func wrongRecords() []api.RR {
	var l []api.RR
	for _, n := range notNames {
		l = append(l, api.RR{Name: n, Type: 99, Class: api.IN}, api.RR{Name: n, Type: api.A, Class: api.IN, Data: "abcd"})
	}
	return append(l,
		api.RR{Name: ab, Type: api.A}, api.RR{Name: ab, Type: api.A, Data: "abcde"}, api.RR{Name: ab, Type: api.AAAA, Data: "abcd"},
		api.RR{Name: ab, Type: api.NS, Data: "\xc0\x0c"}, api.RR{Name: ab, Type: api.CNAME, Data: "\x02AB\x00"}, api.RR{Name: ab, Type: api.MX, Data: ab},
		api.RR{Name: ab, Type: api.SOA, Data: ab + ab}, api.RR{Name: ab, Type: api.TXT}, api.RR{Name: ab, Type: 99, Data: strings.Repeat("o", 65536)},
	)
}

// address, alias and text are records of which the encoding has 14, 10 and 11 bytes and the bytes of their names and data.
func address(n string, last byte) api.RR {
	return api.RR{Name: n, Type: api.A, Class: api.IN, TTL: 5, Data: "\x01\x02\x03" + string([]byte{last})}
}

func alias(n, to string) api.RR {
	return api.RR{Name: n, Type: api.CNAME, Class: api.IN, TTL: 0x01020304, Data: to}
}

func text(n, d string) api.RR {
	return api.RR{Name: n, Type: api.TXT, Class: api.IN, TTL: 9, Data: string([]byte{byte(len(d))}) + d}
}

// bulk is a record with a name of one byte. Its encoding has so many bytes.
func bulk(size int) api.RR {
	return api.RR{Name: root, Type: 99, Class: api.IN, Data: strings.Repeat("b", size-11)}
}

func question(n string) api.Question {
	return api.Question{Name: n, Type: api.A, Class: api.IN}
}

// full has questions and records in each section. No two sections have the same number of them.
func full() api.Msg {
	return api.Msg{
		ID: 0x1234, QR: true, AA: true, RD: true, RA: true, Op: 10, Rcode: 3,
		Q:  []api.Question{question(wwwAb), {Name: xy, Type: 0xfffe, Class: 0x0102}, question(root)},
		An: []api.RR{alias(wwwAb, cAb), address(cAb, 4)},
		Ns: []api.RR{{Name: ab, Type: api.NS, Class: api.IN, TTL: math.MaxUint32, Data: "\x02ns" + xy}},
		Ar: []api.RR{address("\x02ns"+xy, 5), address("\x02ns"+xy, 6), text(root, "last"), {Name: ab, Type: 99}},
	}
}

// messages are valid messages of all kinds that have at most 65535 bytes.
func messages() []api.Msg {
	l := []api.Msg{
		{}, {ID: 7}, {ID: 0xffff, Q: []api.Question{{Name: root}}}, {Q: []api.Question{question(ab)}}, {Q: []api.Question{question(ab), question(ab)}},
		{An: []api.RR{address(ab, 4)}}, {Ns: []api.RR{address(ab, 4)}}, {Ar: []api.RR{address(ab, 4)}},
		{An: []api.RR{{Name: root}}, Ns: []api.RR{{Name: root}}, Ar: []api.RR{{Name: root}}},
		{TC: true, Q: []api.Question{question(ab)}, An: []api.RR{address(ab, 4), address(ab, 5)}},
		{Q: []api.Question{question(ab)}, An: []api.RR{alias(ab, ab), alias(ab, ab)}, Ar: []api.RR{alias(ab, ab), alias(ab, ab)}},
		{QR: true, An: []api.RR{bulk(300)}, Ns: []api.RR{bulk(400), bulk(11)}, Ar: []api.RR{bulk(16384), address(wwwAb, 4), address(wwwAb, 5)}},
		{An: []api.RR{bulk(65523)}}, {Ns: []api.RR{bulk(65512)}, Ar: []api.RR{{Name: root}}},
		full(),
	}
	for _, c := range codes {
		m := full()
		m.Op, m.Rcode = c, 15-c
		l = append(l, m)
	}
	for flag := range 5 {
		l = append(l, withFlags(full(), 1<<flag), withFlags(full(), 31^1<<flag))
	}
	return l
}

// withFlags returns a message with the flags of which the bits are set, in the order of the header, the lowest bit first.
func withFlags(m api.Msg, bits int) api.Msg {
	m.QR, m.AA, m.TC, m.RD, m.RA = bits&1 != 0, bits&2 != 0, bits&4 != 0, bits&8 != 0, bits&16 != 0
	return m
}

func two(n int) string {
	return string([]byte{byte(n >> 8), byte(n)})
}

// plainPut encodes a message, worked out from the words of the document alone, whatever number of bytes that takes.
func plainPut(m api.Msg) string {
	bit := func(on bool, value int) int {
		if on {
			return value
		}
		return 0
	}
	p := wire.New()
	p.Add(two(int(m.ID)))
	p.Add(string([]byte{
		byte(bit(m.QR, 128) + m.Op*8 + bit(m.AA, 4) + bit(m.TC, 2) + bit(m.RD, 1)),
		byte(bit(m.RA, 128) + m.Rcode),
	}))
	p.Add(two(len(m.Q)) + two(len(m.An)) + two(len(m.Ns)) + two(len(m.Ar)))
	for _, q := range m.Q {
		record.PutQ(p, q)
	}
	for _, l := range [][]api.RR{m.An, m.Ns, m.Ar} {
		for _, r := range l {
			record.Put(p, r)
		}
	}
	return p.Out()
}

// prefix returns a message with its first many records only, and with TC set.
func prefix(m api.Msg, many int) api.Msg {
	part := func(l []api.RR) []api.RR {
		var x []api.RR
		for _, r := range l {
			if many > 0 {
				x = append(x, r)
				many--
			}
		}
		return x
	}
	m.TC = true
	m.An, m.Ns, m.Ar = part(m.An), part(m.Ns), part(m.Ar)
	return m
}

// plainCut tries one prefix after the other, as the document says, the longest first. It is for messages that are valid.
func plainCut(m api.Msg, most int) (api.Msg, api.Errno) {
	fits := func(x api.Msg) bool {
		size := len(plainPut(x))
		return size <= most && size <= 65535
	}
	if fits(m) {
		return m, api.OK
	}
	for many := total(m) - 1; many >= 0; many-- {
		if x := prefix(m, many); fits(x) {
			return x, api.OK
		}
	}
	return api.Msg{}, api.ErrLong
}

func total(m api.Msg) int {
	return len(m.An) + len(m.Ns) + len(m.Ar)
}

// same reports whether two messages are equal, where nil is an empty list.
func same(a, b api.Msg) bool {
	return a.ID == b.ID && a.QR == b.QR && a.AA == b.AA && a.TC == b.TC && a.RD == b.RD && a.RA == b.RA && a.Op == b.Op && a.Rcode == b.Rcode &&
		slices.Equal(a.Q, b.Q) && slices.Equal(a.An, b.An) && slices.Equal(a.Ns, b.Ns) && slices.Equal(a.Ar, b.Ar)
}

// short keeps a report readable.
func short(x any) string {
	s := fmt.Sprintf("%#v", x)
	if len(s) > 600 {
		return fmt.Sprintf("%s.. (%d bytes)", s[:600], len(s))
	}
	return s
}

func puts(t *testing.T, m api.Msg, want string) {
	t.Helper()
	if s, err := Put(m); s != want || err != api.OK {
		t.Errorf("Put(%s) = %s, %d, want %s", short(m), short(s), err, short(want))
	}
}

func putFails(t *testing.T, m api.Msg, want api.Errno) {
	t.Helper()
	if s, err := Put(m); s != "" || err != want {
		t.Errorf("Put(%s) = %s, %d, want %d", short(m), short(s), err, want)
	}
}

func takes(t *testing.T, s string, want api.Msg) {
	t.Helper()
	if m, err := Take(s); !same(m, want) || err != api.OK {
		t.Errorf("Take(%s) = %s, %d, want %s", short(s), short(m), err, short(want))
	}
}

func refuses(t *testing.T, s string) {
	t.Helper()
	if m, err := Take(s); !same(m, api.Msg{}) || err != api.ErrForm {
		t.Errorf("Take(%s) = %s, %d", short(s), short(m), err)
	}
}

func cuts(t *testing.T, m api.Msg, most int, want api.Msg) {
	t.Helper()
	if x, err := Cut(m, most); !same(x, want) || err != api.OK {
		t.Errorf("Cut(%s, %d) = %s, %d, want %s", short(m), most, short(x), err, short(want))
	}
}

func cutFails(t *testing.T, m api.Msg, most int, want api.Errno) {
	t.Helper()
	if x, err := Cut(m, most); !same(x, api.Msg{}) || err != want {
		t.Errorf("Cut(%s, %d) = %s, %d, want %d", short(m), most, short(x), err, want)
	}
}

func TestPut(t *testing.T) { // P6.1
	puts(t, api.Msg{}, strings.Repeat("\x00", 12))
	puts(t, api.Msg{ID: 0x0102}, "\x01\x02"+strings.Repeat("\x00", 10))
	puts(t, api.Msg{Q: []api.Question{question(ab)}}, "\x00\x00\x00\x00\x00\x01\x00\x00\x00\x00\x00\x00"+ab+"\x00\x01\x00\x01")
	puts(t, api.Msg{An: []api.RR{address(ab, 4)}}, "\x00\x00\x00\x00\x00\x00\x00\x01\x00\x00\x00\x00"+ab+"\x00\x01\x00\x01\x00\x00\x00\x05\x00\x04\x01\x02\x03\x04")
	puts(t, api.Msg{Ns: []api.RR{address(ab, 4)}}, "\x00\x00\x00\x00\x00\x00\x00\x00\x00\x01\x00\x00"+ab+"\x00\x01\x00\x01\x00\x00\x00\x05\x00\x04\x01\x02\x03\x04")
	puts(t, api.Msg{Ar: []api.RR{address(ab, 4)}}, "\x00\x00\x00\x00\x00\x00\x00\x00\x00\x00\x00\x01"+ab+"\x00\x01\x00\x01\x00\x00\x00\x05\x00\x04\x01\x02\x03\x04")
	puts(t, full(), "\x12\x34\xd5\x83\x00\x03\x00\x02\x00\x01\x00\x04"+
		// The questions, at the offsets 12, 24 and 32.
		wwwAb+"\x00\x01\x00\x01"+xy+"\xff\xfe\x01\x02"+root+"\x00\x01\x00\x01"+
		// The answers, at 37: www.ab. and ab. are known from the questions, c.ab. from the data of the first answer.
		"\xc0\x0c\x00\x05\x00\x01\x01\x02\x03\x04\x00\x04\x01c\xc0\x10"+"\xc0\x31\x00\x01\x00\x01\x00\x00\x00\x05\x00\x04\x01\x02\x03\x04"+
		// The authority, at 69.
		"\xc0\x10\x00\x02\x00\x01\xff\xff\xff\xff\x00\x05\x02ns\xc0\x18"+
		// The additional records, at 86: ns.xy. is known from the data of the authority.
		"\xc0\x51\x00\x01\x00\x01\x00\x00\x00\x05\x00\x04\x01\x02\x03\x05"+"\xc0\x51\x00\x01\x00\x01\x00\x00\x00\x05\x00\x04\x01\x02\x03\x06"+
		root+"\x00\x10\x00\x01\x00\x00\x00\x09\x00\x05\x04last"+"\xc0\x10\x00\x63\x00\x00\x00\x00\x00\x00\x00\x00")
}

func TestPutOfKnownNames(t *testing.T) { // P6.1: a pointer from each section to each one before it
	m := api.Msg{Q: []api.Question{question("\x01q\x00"), question("\x01q\x00")}}
	puts(t, m, "\x00\x00\x00\x00\x00\x02\x00\x00\x00\x00\x00\x00\x01q\x00\x00\x01\x00\x01\xc0\x0c\x00\x01\x00\x01")
	none := func(n string) api.RR { return api.RR{Name: n, Type: 99, Class: api.IN} }
	const rest = "\x00\x63\x00\x01\x00\x00\x00\x00\x00\x00"
	m = api.Msg{
		Q:  []api.Question{question("\x01q\x00")},
		An: []api.RR{none("\x01a\x00"), none("\x01q\x00")},
		Ns: []api.RR{none("\x01n\x00"), none("\x01a\x00"), none("\x01q\x00")},
		Ar: []api.RR{none("\x01n\x00"), none("\x01a\x00"), none("\x01q\x00"), none("\x01r\x01q\x00"), none("\x01r\x01q\x00")},
	}
	puts(t, m, "\x00\x00\x00\x00\x00\x01\x00\x02\x00\x03\x00\x05\x01q\x00\x00\x01\x00\x01"+
		"\x01a\x00"+rest+"\xc0\x0c"+rest+"\x01n\x00"+rest+"\xc0\x13"+rest+"\xc0\x0c"+rest+
		"\xc0\x2c"+rest+"\xc0\x13"+rest+"\xc0\x0c"+rest+"\x01r\xc0\x0c"+rest+"\xc0\x75"+rest)
	// A name that begins behind the reach of a pointer is written again.
	m = api.Msg{An: []api.RR{bulk(16372), none(ab)}, Ns: []api.RR{none(ab)}}
	puts(t, m, "\x00\x00\x00\x00\x00\x00\x00\x02\x00\x01\x00\x00"+root+rest[:8]+two(16361)+strings.Repeat("b", 16361)+ab+rest+ab+rest)
	m.An[0] = bulk(16371)
	puts(t, m, "\x00\x00\x00\x00\x00\x00\x00\x02\x00\x01\x00\x00"+root+rest[:8]+two(16360)+strings.Repeat("b", 16360)+ab+rest+"\xff\xff"+rest)
}

func TestPutOfFlags(t *testing.T) { // P6.1, P6.2
	for bits, want := range []string{
		0: "\x00\x00", 1: "\x80\x00", 2: "\x04\x00", 4: "\x02\x00", 8: "\x01\x00", 16: "\x00\x80", 31: "\x87\x80",
	} {
		if want != "" {
			m := withFlags(api.Msg{ID: 0x0102}, bits)
			puts(t, m, "\x01\x02"+want+strings.Repeat("\x00", 8))
			takes(t, "\x01\x02"+want+strings.Repeat("\x00", 8), m)
		}
	}
	for bits := range 32 {
		m := withFlags(full(), bits)
		puts(t, m, plainPut(m))
		takes(t, plainPut(m), m)
	}
}

func TestPutOfCodes(t *testing.T) { // P6.1, P6.2
	for _, op := range codes {
		for _, rcode := range codes {
			m := api.Msg{Op: op, Rcode: rcode}
			s := "\x00\x00" + string([]byte{byte(op << 3), byte(rcode)}) + strings.Repeat("\x00", 8)
			if !May(m) {
				t.Errorf("May(%s) = false", short(m))
			}
			puts(t, m, s)
			takes(t, s, m)
		}
	}
}

func TestWrongCodes(t *testing.T) { // P6.1, P6.3, R1
	for _, c := range wrongCodes {
		for _, m := range []api.Msg{{Op: c}, {Rcode: c}, {Op: c, Rcode: c}, {Op: c, Rcode: 15}, {Op: 15, Rcode: c}} {
			isWrong(t, m)
			m.Q, m.An = full().Q, full().An
			isWrong(t, m)
		}
	}
}

// isWrong checks that a message is not valid, for whatever wants a valid one.
func isWrong(t *testing.T, m api.Msg) {
	t.Helper()
	if May(m) {
		t.Errorf("May(%s) = true", short(m))
	}
	putFails(t, m, api.ErrArg)
	for _, most := range []int{math.MaxInt, 65535, 512, 12, 0, -1, math.MinInt} {
		cutFails(t, m, most, api.ErrArg)
	}
}

func TestMayOfMessages(t *testing.T) { // P6.1
	for _, m := range messages() {
		if !May(m) {
			t.Errorf("May(%s) = false", short(m))
		}
		puts(t, m, plainPut(m))
	}
}

func TestWrongElements(t *testing.T) { // P6.1, P6.3, R1
	for _, n := range notNames {
		for at := range len(full().Q) {
			m := full()
			m.Q[at].Name = n
			isWrong(t, m)
		}
		isWrong(t, api.Msg{Q: []api.Question{question(n)}})
	}
	for _, r := range wrongRecords() {
		isWrong(t, api.Msg{An: []api.RR{r}})
		isWrong(t, api.Msg{Ns: []api.RR{r}})
		isWrong(t, api.Msg{Ar: []api.RR{r}})
		for at := range total(full()) {
			m := full()
			switch {
			case at < len(m.An):
				m.An[at] = r
			case at < len(m.An)+len(m.Ns):
				m.Ns[at-len(m.An)] = r
			default:
				m.Ar[at-len(m.An)-len(m.Ns)] = r
			}
			isWrong(t, m)
		}
	}
}

// TestWrongBehindTooMuch has what is not valid behind more than fits: ErrArg comes before ErrLong.
func TestWrongBehindTooMuch(t *testing.T) { // P6.1, P6.3, R1
	isWrong(t, api.Msg{An: []api.RR{bulk(65523), bulk(65523)}, Ar: []api.RR{{}}})
	isWrong(t, api.Msg{An: []api.RR{bulk(65524), {}}})
	isWrong(t, api.Msg{Op: 16, Ar: []api.RR{bulk(65524)}})
}

func TestManyElements(t *testing.T) { // P6.1, P6.3
	q := slices.Repeat([]api.Question{{Name: root}}, 65536)
	l := slices.Repeat([]api.RR{{Name: root}}, 65536)
	for _, m := range []api.Msg{{Q: q}, {An: l}, {Ns: l}, {Ar: l}} {
		isWrong(t, m)
	}
	q, l = q[:65535], l[:65535]
	for _, m := range []api.Msg{{Q: q}, {An: l}, {Ns: l}, {Ar: l}, {Q: q, An: l, Ns: l, Ar: l}} {
		if !May(m) {
			t.Errorf("May(%s) = false", short(m))
		}
		putFails(t, m, api.ErrLong)
	}
	cutFails(t, api.Msg{Q: q}, math.MaxInt, api.ErrLong)
	// (65535 - 12) / 11 records fit, wherever they are.
	cuts(t, api.Msg{An: l}, math.MaxInt, api.Msg{TC: true, An: l[:5956]})
	cuts(t, api.Msg{Ns: l}, math.MaxInt, api.Msg{TC: true, Ns: l[:5956]})
	cuts(t, api.Msg{Ar: l}, math.MaxInt, api.Msg{TC: true, Ar: l[:5956]})
	cuts(t, api.Msg{An: l[:5955], Ns: l, Ar: l}, 65535, api.Msg{TC: true, An: l[:5955], Ns: l[:1]})
}

// TestTakeOfManyElements has encodings of more than 65535 bytes: the document sets no limit to what is decoded.
func TestTakeOfManyElements(t *testing.T) { // P6.2
	const zeros = "\x00\x00\x00\x00\x00"
	q := slices.Repeat([]api.Question{{Name: root}}, 65535)
	l := slices.Repeat([]api.RR{{Name: root}}, 65535)
	s := "\x00\x00\x00\x00\xff\xff\xff\xff\xff\xff\xff\xff" + strings.Repeat(zeros, 65535) + strings.Repeat("\x00"+zeros+zeros, 3*65535)
	takes(t, s, api.Msg{Q: q, An: l, Ns: l, Ar: l})
	refuses(t, s[:len(s)-1])
	refuses(t, s+"\x00")
}

func TestSizeOfRecords(t *testing.T) { // P6.1, P6.3: exactly 65535 bytes, and one more
	for section := range 3 {
		in := func(l ...api.RR) api.Msg {
			return []api.Msg{{ID: 7, An: l}, {ID: 7, Ns: l}, {ID: 7, Ar: l}}[section]
		}
		fits := in(bulk(65523))
		if s, err := Put(fits); len(s) != 65535 || s != plainPut(fits) || err != api.OK {
			t.Errorf("Put of 65535 bytes: %d bytes, %d", len(s), err)
		}
		for _, most := range []int{65535, 65536, math.MaxInt} {
			cuts(t, fits, most, fits)
		}
		cuts(t, fits, 65534, api.Msg{ID: 7, TC: true})
		// Of one more, at the end of a single record, and of a record before others.
		for _, l := range [][]api.RR{{bulk(65524)}, {bulk(65524), bulk(11)}} {
			putFails(t, in(l...), api.ErrLong)
			for _, most := range []int{12, 65535, 65536, math.MaxInt} {
				cuts(t, in(l...), most, api.Msg{ID: 7, TC: true})
			}
			cutFails(t, in(l...), 11, api.ErrLong)
		}
		for _, last := range []int{11, 12, 60000} {
			putFails(t, in(bulk(65513), bulk(last)), api.ErrLong)
			want := in(bulk(65513))
			want.TC = true
			cuts(t, in(bulk(65513), bulk(last)), math.MaxInt, want)
		}
		puts(t, in(bulk(65512), bulk(11)), plainPut(in(bulk(65512), bulk(11))))
	}
}

func TestSizeOfQuestions(t *testing.T) { // P6.1, P6.3: exactly 65535 bytes, and one more
	q := append(slices.Repeat([]api.Question{{Name: root}}, 13103), question(ab))
	m := api.Msg{Q: q}
	if s, err := Put(m); len(s) != 65535 || s != plainPut(m) || err != api.OK {
		t.Errorf("Put of 65535 bytes: %d bytes, %d", len(s), err)
	}
	cuts(t, m, 65535, m)
	cuts(t, m, math.MaxInt, m)
	cutFails(t, m, 65534, api.ErrLong)
	m.Ar = []api.RR{{Name: root}}
	putFails(t, m, api.ErrLong)
	cuts(t, m, 65535, api.Msg{TC: true, Q: q})
	cuts(t, m, math.MaxInt, api.Msg{TC: true, Q: q})
	cutFails(t, m, 65534, api.ErrLong)
	m.Q = append(slices.Clone(q[:13103]), question("\x03abc\x00"))
	for _, l := range [][]api.RR{nil, {{Name: root}}} {
		m.An, m.Ar = nil, l
		putFails(t, m, api.ErrLong)
		cutFails(t, m, 65535, api.ErrLong)
		cutFails(t, m, math.MaxInt, api.ErrLong)
	}
}

func TestHeader(t *testing.T) { // P6.2
	for _, m := range messages() {
		s := plainPut(m)
		want := m
		want.Q, want.An, want.Ns, want.Ar = nil, nil, nil, nil
		for _, x := range []string{s, s[:12], s[:12] + "\xff"} {
			if h, err := Header(x); !same(h, want) || err != api.OK {
				t.Errorf("Header(%s) = %s, %d, want %s", short(x), short(h), err, short(want))
			}
		}
		for end := range 12 {
			if h, err := Header(s[:end]); !same(h, api.Msg{}) || err != api.ErrForm {
				t.Errorf("Header(%s) = %s, %d", short(s[:end]), short(h), err)
			}
		}
	}
	// The numbers of elements are not held against what follows.
	if h, err := Header("\x00\x07" + strings.Repeat("\xff", 10)); err != api.OK || !same(h, withFlags(api.Msg{ID: 7, Op: 15, Rcode: 15}, 31)) {
		t.Errorf("Header = %s, %d", short(h), err)
	}
}

func TestTake(t *testing.T) { // P6.2, P6.4
	for _, m := range messages() {
		s := plainPut(m)
		takes(t, s, m)
		for _, x := range []string{"\x00", "\xff", "\xc0\x0c", s} {
			refuses(t, s+x)
		}
	}
}

func TestTakeOfWhatIsCutShort(t *testing.T) { // P6.2, R1
	for _, m := range messages() {
		s := plainPut(m)
		for end := range min(len(s), 400) {
			refuses(t, s[:end])
			refuses(t, s[:len(s)-1-end])
		}
	}
	refuses(t, "")
	refuses(t, strings.Repeat("\x00", 11))
	takes(t, strings.Repeat("\x00", 12), api.Msg{})
	refuses(t, strings.Repeat("\x00", 13))
}

func TestTakeIgnoresUnusedBits(t *testing.T) { // P6.2
	for _, m := range messages() {
		s := plainPut(m)
		for bits := range 8 {
			x := s[:3] + string([]byte{s[3] | byte(bits)<<4}) + s[4:]
			takes(t, x, m)
			h, err := Header(x)
			if want, _ := Header(s); !same(h, want) || err != api.OK {
				t.Errorf("Header(%s) = %s, %d", short(x), short(h), err)
			}
			if got, err := Take(x); err == api.OK {
				puts(t, got, s) // where they are 0 again
			}
		}
	}
}

func TestTakeOfWrongNumbers(t *testing.T) { // P6.2, R1
	for _, m := range messages() {
		s := plainPut(m)
		for section, many := range []int{len(m.Q), len(m.An), len(m.Ns), len(m.Ar)} {
			at := 4 + 2*section
			for _, wrong := range []int{many - 1, many + 1, many + 256, many ^ 0x8000, 65535} {
				if wrong >= 0 {
					refuses(t, s[:at]+two(wrong)+s[at+2:])
				}
			}
		}
	}
	// What the numbers say decides in which section a record is.
	s := plainPut(api.Msg{An: []api.RR{address(ab, 4), address(ab, 5)}})
	takes(t, s[:4]+"\x00\x00\x00\x01\x00\x00\x00\x01"+s[12:], api.Msg{An: []api.RR{address(ab, 4)}, Ar: []api.RR{address(ab, 5)}})
	takes(t, s[:4]+"\x00\x00\x00\x00\x00\x02\x00\x00"+s[12:], api.Msg{Ns: []api.RR{address(ab, 4), address(ab, 5)}})
}

func TestTakeOfWrongElements(t *testing.T) { // P6.2, R1
	for section := range 4 {
		head := "\x00\x00\x00\x00" + strings.Repeat("\x00\x00", section) + "\x00\x01" + strings.Repeat("\x00\x00", 3-section)
		rest := "\x00\x01\x00\x01"
		if section > 0 {
			rest += "\x00\x00\x00\x05\x00\x04abcd"
		}
		if m, err := Take(head + ab + rest); err != api.OK || len(m.Q)+total(m) != 1 {
			t.Errorf("Take(%s): %d", short(head+ab+rest), err)
		}
		// Pointers to themselves and to behind them, a length that is none, and a name that goes on behind the end.
		for _, n := range []string{"\xc0\x0c", "\xc0\x0e", "\xff\xff", "\x01a\xc0\x0c", "\x40" + strings.Repeat("a", 64) + "\x00", "\x80\x00", "\x3fa\x00"} {
			refuses(t, head+n+rest)
		}
	}
	const head = "\x00\x00\x00\x00\x00\x00\x00\x01\x00\x00\x00\x00"
	refuses(t, head+ab+"\x00\x01\x00\x01\x00\x00\x00\x05\x00\x03abc")
	refuses(t, head+ab+"\x00\x01\x00\x01\x00\x00\x00\x05\x00\x05abcde")
	refuses(t, head+ab+"\x00\x02\x00\x01\x00\x00\x00\x05\x00\x02\xc0\x1a")
	refuses(t, head+ab+"\x00\x10\x00\x01\x00\x00\x00\x05\x00\x00")
	// A wrong record before sections without any, and before one with some.
	refuses(t, "\x00\x00\x00\x00\x00\x00\x00\x01\x00\x00\x00\x01"+ab+"\x00\x01\x00\x01\x00\x00\x00\x05\x00\x03abc"+"\xc0\x0c\x00\x63\x00\x01\x00\x00\x00\x05\x00\x00")
	refuses(t, "\x00\x00\x00\x00\x00\x01\x00\x01\x00\x00\x00\x00\xc0\x0c\x00\x01\x00\x01"+root+"\x00\x63\x00\x01\x00\x00\x00\x05\x00\x00")
}

func TestTakeFoldsNames(t *testing.T) { // P6.2
	takes(t, "AB\x00\x00\x00\x01\x00\x01\x00\x00\x00\x00\x02AB\x00\x41\x42\x43\x44"+"\x01C\xc0\x0c\x00\x05\x00\x01\x01\x02\x03\x04\x00\x04\x01D\xc0\x14",
		api.Msg{ID: 0x4142, Q: []api.Question{{Name: ab, Type: 0x4142, Class: 0x4344}}, An: []api.RR{alias(cAb, "\x01d"+cAb)}})
	// Pointers into the header, of which the bytes are a name: its ID and its flags.
	takes(t, "\x01Q\x00\x00\x00\x01\x00\x00\x00\x00\x00\x00\xc0\x00\x00\x01\x00\x01", api.Msg{ID: 0x0151, Q: []api.Question{question("\x01q\x00")}})
}

func TestCut(t *testing.T) { // P6.3
	m := full()
	size := len(plainPut(m))
	ends := []int{37, 53, 69, 86, 102, 118, 134, 146} // behind the questions, and behind each record
	if size != 146 {
		t.Fatalf("the message has %d bytes", size)
	}
	for most := -2; most < size; most++ {
		many := -1
		for many+1 < len(ends) && ends[many+1] <= most {
			many++
		}
		if many < 0 {
			cutFails(t, m, most, api.ErrLong)
		} else {
			cuts(t, m, most, prefix(m, many))
		}
	}
	for _, most := range []int{size, size + 1, 512, 65535, 65536, math.MaxInt} {
		cuts(t, m, most, m)
	}
	cutFails(t, m, math.MinInt, api.ErrLong)
	// The sections that a record is cut from.
	with := func(an, ns, ar []api.RR) api.Msg {
		x := full()
		x.TC, x.An, x.Ns, x.Ar = true, an, ns, ar
		return x
	}
	cuts(t, m, 145, with(m.An, m.Ns, m.Ar[:3]))
	cuts(t, m, 86, with(m.An, m.Ns, nil))
	cuts(t, m, 85, with(m.An, nil, nil))
	cuts(t, m, 68, with(m.An[:1], nil, nil))
	cuts(t, m, 37, with(nil, nil, nil))
}

func TestCutOfAllMessages(t *testing.T) { // P6.3, P6.4
	for _, m := range messages() {
		size := len(plainPut(m))
		bare := len(plainPut(prefix(m, 0)))
		for _, most := range []int{math.MinInt, -1, 0, 1, 11, 12, bare - 1, bare, bare + 1, size / 2, size - 1, size, size + 1, 65534, 65535, 65536, math.MaxInt} {
			checkCut(t, m, most)
		}
	}
}

// checkCut holds Cut against plainCut, and looks whether what was cut fits and is a prefix.
func checkCut(t *testing.T, m api.Msg, most int) {
	t.Helper()
	want, err := plainCut(m, most)
	if err != api.OK {
		cutFails(t, m, most, err)
		return
	}
	cuts(t, m, most, want)
	x, _ := Cut(m, most)
	s, err := Put(x)
	if err != api.OK || len(s) > most || len(s) > 65535 {
		t.Errorf("Cut(%s, %d) has %d bytes, %d", short(m), most, len(s), err)
	}
	if !slices.Equal(records(x), records(m)[:total(x)]) || !slices.Equal(x.Q, m.Q) {
		t.Errorf("Cut(%s, %d) = %s, which is no prefix", short(m), most, short(x))
	}
	cuts(t, x, most, x)
	cuts(t, x, len(s), x)
}

// TestCutWithoutRecords has no proper prefix of no records.
func TestCutWithoutRecords(t *testing.T) { // P6.3
	for _, m := range []api.Msg{{}, {ID: 7, Rcode: 2}, {TC: true}, {Q: []api.Question{question(ab), question(wwwAb)}}} {
		size := len(plainPut(m))
		for _, most := range []int{size, size + 1, 65535, math.MaxInt} {
			cuts(t, m, most, m)
		}
		for _, most := range []int{size - 1, 11, 1, 0, -1, math.MinInt} {
			cutFails(t, m, most, api.ErrLong)
		}
	}
}

// TestCutEndsAtTheFirstRecordThatDoesNotFit has one behind it that would fit in its place.
func TestCutEndsAtTheFirstRecordThatDoesNotFit(t *testing.T) { // P6.3
	m := api.Msg{An: []api.RR{bulk(20), bulk(600)}, Ns: []api.RR{bulk(11)}, Ar: []api.RR{bulk(11)}}
	cuts(t, m, 512, api.Msg{TC: true, An: m.An[:1]})
	cuts(t, m, 632, api.Msg{TC: true, An: m.An})
	cuts(t, m, 643, api.Msg{TC: true, An: m.An, Ns: m.Ns})
	m = api.Msg{Ns: []api.RR{bulk(600)}, Ar: []api.RR{bulk(11)}}
	cuts(t, m, 512, api.Msg{TC: true})
}

func TestReply(t *testing.T) { // P6.3
	for _, m := range messages() {
		for _, rcode := range append(slices.Clone(codes), wrongCodes...) {
			want := api.Msg{ID: m.ID, QR: true, RD: m.RD, RA: true, Op: m.Op, Rcode: rcode, Q: m.Q}
			if r := Reply(m, rcode); !same(r, want) {
				t.Errorf("Reply(%s, %d) = %s", short(m), rcode, short(r))
			}
		}
	}
	for bits := range 32 {
		r := Reply(withFlags(full(), bits), 5)
		if !r.QR || r.AA || r.TC || r.RD != (bits&8 != 0) || !r.RA || r.Op != 10 || r.Rcode != 5 || len(r.Q) != 3 || total(r) != 0 {
			t.Errorf("Reply = %s", short(r))
		}
	}
	// A message that is not valid is replied to as it is.
	for _, c := range wrongCodes {
		m := api.Msg{ID: 9, Op: c, Rcode: 3, Q: []api.Question{{Name: "no name"}, {}}, An: wrongRecords()}
		if r := Reply(m, -c); !same(r, api.Msg{ID: 9, QR: true, RA: true, Op: c, Rcode: -c, Q: m.Q}) {
			t.Errorf("Reply(%s, %d) = %s", short(m), -c, short(r))
		}
	}
	if s, err := Put(Reply(api.Msg{ID: 7}, 2)); s != "\x00\x07\x80\x82\x00\x00\x00\x00\x00\x00\x00\x00" || err != api.OK {
		t.Errorf("Put of a reply = %q, %d", s, err)
	}
}

// spoil overwrites the elements of a message, and what is behind them in their memory.
func spoil(m api.Msg) {
	for i := range m.Q[:cap(m.Q)] {
		m.Q[:cap(m.Q)][i] = api.Question{Name: "spoilt"}
	}
	for _, l := range [][]api.RR{m.An, m.Ns, m.Ar} {
		for i := range l[:cap(l)] {
			l[:cap(l)][i] = api.RR{Name: "spoilt"}
		}
	}
}

func TestNothingIsChangedOrShared(t *testing.T) { // R3
	for _, most := range []int{math.MaxInt, 145, 118, 86, 69, 53, 37, 36, 0} {
		m := full()
		May(m)
		Put(m)
		x, _ := Cut(m, most)
		r := Reply(m, 2)
		if !same(m, full()) {
			t.Fatalf("the message became %s", short(m))
		}
		spoil(x)
		spoil(r)
		if !same(m, full()) {
			t.Errorf("Cut to %d or Reply shares what it is given: %s", most, short(m))
		}
		x, _ = Cut(m, most)
		want, _ := Cut(full(), most)
		spoil(m)
		if !same(x, want) {
			t.Errorf("Cut to %d shares what it is given: %s", most, short(x))
		}
		// No two lists of an answer are one.
		grown := append(x.An, api.RR{Name: "spoilt"})
		grown = append(append(x.Ns, api.RR{Name: "spoilt"}), grown...)
		if !same(x, want) || len(grown) == 0 {
			t.Errorf("lists of a message cut to %d share memory: %s", most, short(x))
		}
	}
	m, _ := Take(plainPut(full()))
	m.Ar = append(append(append(m.An, m.An...), m.Ns...), m.Ns...)
	if m.Ar = full().Ar; !same(m, full()) {
		t.Errorf("lists of a message that was taken share memory: %s", short(m))
	}
}

func TestNilAndEmptyAreTheSame(t *testing.T) { // R2
	empty := api.Msg{ID: 7, Q: []api.Question{}, An: []api.RR{}, Ns: []api.RR{}, Ar: []api.RR{}}
	if !May(empty) {
		t.Error("May of empty lists = false")
	}
	puts(t, empty, "\x00\x07"+strings.Repeat("\x00", 10))
	cuts(t, empty, 12, api.Msg{ID: 7})
	cutFails(t, empty, 11, api.ErrLong)
	if r := Reply(empty, 0); !same(r, Reply(api.Msg{ID: 7}, 0)) {
		t.Errorf("Reply = %s", short(r))
	}
}

// rows is a sequence of numbers that looks irregular, and is the same in each run.
type rows uint32

func (r *rows) below(n int) int {
	*r = *r*1664525 + 1013904223
	return int(*r>>16) % n
}

// random returns a message that is valid.
func random(r *rows) api.Msg {
	names := []string{root, ab, cAb, wwwAb, xy, "\x02ns" + xy, "\x3c" + strings.Repeat("x", 60) + ab, "\x04\x00\xc0.\\\x00"}
	some := func() string { return names[r.below(len(names))] }
	list := func() []api.RR {
		var l []api.RR
		for range r.below(4) * r.below(4) {
			x := []api.RR{
				address(some(), byte(r.below(256))), alias(some(), some()), text(some(), strings.Repeat("T", r.below(256))),
				{Name: some(), Type: api.MX, Class: uint16(r.below(65536)), TTL: uint32(r.below(65536)) << 16, Data: "\x00\x0a" + some()},
				{Name: some(), Type: api.SOA, Class: api.IN, Data: some() + some() + "ABCDEFGHIJ\xc0\x0c\x00\x01\x02\x03\x3f\x40\x80\xff"},
				bulk(11 + r.below(3)*r.below(9000)),
			}
			l = append(l, x[r.below(len(x))])
		}
		return l
	}
	m := withFlags(api.Msg{ID: uint16(r.below(65536)), Op: r.below(16), Rcode: r.below(16)}, r.below(32))
	for range r.below(4) {
		m.Q = append(m.Q, api.Question{Name: some(), Type: uint16(r.below(65536)), Class: uint16(r.below(65536))})
	}
	m.An, m.Ns, m.Ar = list(), list(), list()
	return m
}

func TestWhatWasPutIsTaken(t *testing.T) { // P6.1 to P6.4
	many := 0
	for seed := range 1000 {
		r := rows(seed)
		m := random(&r)
		s := plainPut(m)
		if !May(m) {
			t.Fatalf("May(%s) = false", short(m))
		}
		if len(s) > 65535 {
			putFails(t, m, api.ErrLong)
		} else {
			many++
			puts(t, m, s)
			takes(t, s, m)
			refuses(t, s[:len(s)-1])
			refuses(t, s+s[:1])
		}
		for _, most := range []int{r.below(40), r.below(200), 512, r.below(len(s) + 1), len(s) - 1, len(s), 65535, math.MaxInt} {
			checkCut(t, m, most)
		}
	}
	if many < 500 {
		t.Errorf("only %d messages were taken", many)
	}
}

// plainTake decodes a message, worked out from the words of the document alone, and reports whether there is one.
func plainTake(s string) (api.Msg, bool) {
	if len(s) < 12 {
		return api.Msg{}, false
	}
	m := api.Msg{ID: uint16(s[0])<<8 | uint16(s[1]), Op: int(s[2]) / 8 % 16, Rcode: int(s[3]) % 16}
	m.QR, m.AA, m.TC, m.RD, m.RA = s[2] >= 128, s[2]&4 != 0, s[2]&2 != 0, s[2]&1 != 0, s[3] >= 128
	at := 12
	for section := range 4 {
		for range int(s[4+2*section])*256 + int(s[5+2*section]) {
			if section == 0 {
				q, next, err := record.TakeQ(s, at)
				if err != api.OK {
					return api.Msg{}, false
				}
				m.Q, at = append(m.Q, q), next
				continue
			}
			r, next, err := record.Take(s, at)
			if err != api.OK {
				return api.Msg{}, false
			}
			l := []*[]api.RR{&m.An, &m.Ns, &m.Ar}[section-1]
			*l, at = append(*l, r), next
		}
	}
	return m, at == len(s)
}

// FuzzTake holds Take and Header against plainTake, for any bytes, and puts again what was taken: P1, P6.2 and P6.4.
func FuzzTake(f *testing.F) {
	for _, m := range messages() {
		if s := plainPut(m); len(s) < 1000 {
			f.Add(s)
			f.Add(s + "\x00")
			f.Add(s[:len(s)-1])
		}
	}
	f.Add("")
	f.Fuzz(func(t *testing.T, s string) {
		m, ok := plainTake(s)
		if !ok {
			refuses(t, s)
			return
		}
		takes(t, s, m)
		h, err := Header(s)
		bare := prefix(m, 0)
		bare.Q, bare.TC = nil, m.TC
		if !same(h, bare) || err != api.OK || !May(m) {
			t.Fatalf("Header(%s) = %s, %d", short(s), short(h), err)
		}
		if code := plainPut(m); len(code) <= 65535 {
			puts(t, m, code)
			takes(t, code, m)
		}
	})
}

// FuzzMessage holds May, Put and Cut against their plain forms, for messages that need not be valid: P1, P6.1 to P6.4.
func FuzzMessage(f *testing.F) {
	f.Add(uint16(7), 31, 15, 15, ab, cAb, uint16(api.A), "abcd", 2, 60)
	f.Add(uint16(7), 0, 16, 0, root, ab, uint16(99), "", 1, 12)
	f.Add(uint16(7), 4, 0, -1, root, ab, uint16(api.NS), wwwAb, 3, -1)
	f.Add(uint16(0), 0, 0, 0, "", "", uint16(0), "", 0, 0)
	f.Add(uint16(0), 0, 0, 0, ab, "\x01A\x00", uint16(api.MX), "\x00\x0a"+ab, 9, 512)
	f.Fuzz(func(t *testing.T, id uint16, flags, op, rcode int, n, other string, kind uint16, d string, many, most int) {
		m := withFlags(api.Msg{ID: id, Op: op, Rcode: rcode}, flags)
		r := api.RR{Name: n, Type: kind, Class: id, TTL: uint32(flags), Data: d}
		for i := range many & 15 {
			switch (many >> 4 >> (2 * i)) & 3 {
			case 0:
				m.Q = append(m.Q, record.Key(r))
			case 1:
				m.An = append(m.An, r)
			case 2:
				m.Ns = append(m.Ns, r, api.RR{Name: other})
			default:
				m.Ar = append(m.Ar, api.RR{Name: other, Type: api.NS, Data: n}, r)
			}
		}
		valid := op >= 0 && op < 16 && rcode >= 0 && rcode < 16
		for _, q := range m.Q {
			valid = valid && record.MayQ(q)
		}
		for _, x := range records(m) {
			valid = valid && record.May(x)
		}
		if !valid {
			isWrong(t, m)
			return
		}
		s := plainPut(m)
		if !May(m) {
			t.Fatalf("May(%s) = false", short(m))
		}
		if len(s) > 65535 {
			putFails(t, m, api.ErrLong)
		} else {
			puts(t, m, s)
			takes(t, s, m)
		}
		checkCut(t, m, most)
		checkCut(t, m, len(s)-1)
		checkCut(t, m, len(s))
	})
}

func ExamplePut() {
	m := api.Msg{ID: 7, Q: []api.Question{{Name: "\x02ab\x00", Type: api.A, Class: api.IN}}}
	r := Reply(m, api.NoError)
	r.An = []api.RR{{Name: "\x02ab\x00", Type: api.A, Class: api.IN, TTL: 5, Data: "\x01\x02\x03\x04"}}
	s, err := Put(r)
	fmt.Printf("%d %q\n", err, s)
	x, err := Cut(r, len(s)-1)
	fmt.Println(x.TC, len(x.Q), len(x.An), err)
	// Output:
	// 0 "\x00\a\x80\x80\x00\x01\x00\x01\x00\x00\x00\x00\x02ab\x00\x00\x01\x00\x01\xc0\f\x00\x01\x00\x01\x00\x00\x00\x05\x00\x04\x01\x02\x03\x04"
	// true 1 0 0
}
