package wire

import (
	"fmt"
	"math"
	"strings"
	"testing"

	"derrick/api"
	"derrick/name"
)

const (
	root  = "\x00"
	ab    = "\x02ab\x00"
	wwwAb = "\x03www\x02ab\x00"
	cAb   = "\x01c\x02ab\x00"
	xCAb  = "\x01x\x01c\x02ab\x00"
)

// label63 is the longest label; name255 and name256 are the longest name and one that is too long by a byte.
var (
	label63 = strings.Repeat("x", 63)
	name255 = strings.Repeat("\x3f"+label63, 3) + "\x3d" + label63[:61] + root
	name256 = strings.Repeat("\x3f"+label63, 3) + "\x3e" + label63[:62] + root
	deep255 = strings.Repeat("\x01a", 127) + root
	deep257 = strings.Repeat("\x01a", 128) + root
)

// notNames are bytes that Name refuses.
var notNames = []string{
	"", "a", "\x01", "\x01a", "\x02a\x00", "\x00\x00", "\x02ab\x00\x00", "\x00\x02ab\x00", "\x01A\x00", "\x02ab\x01Z\x00",
	"\xc0\x00", "\x01a\xc0\x00", "\x40" + label63 + "x\x00", name256, deep257, name255 + root,
}

// packed returns a pack to which names were added.
func packed(t *testing.T, names ...string) *Pack {
	t.Helper()
	p := New()
	for _, n := range names {
		add(t, p, n)
	}
	return p
}

func add(t *testing.T, p *Pack, n string) {
	t.Helper()
	if err := p.Name(n); err != api.OK {
		t.Fatalf("Name(%q) = %d", n, err)
	}
}

func same(t *testing.T, p *Pack, want string) {
	t.Helper()
	if got := p.Out(); got != want {
		t.Errorf("Out() = %q, want %q", got, want)
	}
	if got := p.Len(); got != len(want) {
		t.Errorf("Len() = %d, want %d", got, len(want))
	}
}

func reads(t *testing.T, s string, at int, want string, after int) {
	t.Helper()
	if n, next, err := Take(s, at); n != want || next != after || err != api.OK {
		t.Errorf("Take(%q, %d) = %q, %d, %d, want %q, %d", s, at, n, next, err, want, after)
	}
}

func refuses(t *testing.T, s string, at int) {
	t.Helper()
	if n, next, err := Take(s, at); n != "" || next != 0 || err != api.ErrForm {
		t.Errorf("Take(%q, %d) = %q, %d, %d, want ErrForm", s, at, n, next, err)
	}
}

func TestAddAppends(t *testing.T) { // P3.1
	p := New()
	same(t, p, "")
	p.Add("")
	same(t, p, "")
	p.Add("ab")
	p.Add("")
	p.Add("\x00\xffc")
	same(t, p, "ab\x00\xffc")
	p.Add(strings.Repeat("y", 70000))
	same(t, p, "ab\x00\xffc"+strings.Repeat("y", 70000))
}

func TestPacksAreSeparate(t *testing.T) { // R4
	p, q := packed(t, ab), New()
	if p == q {
		t.Fatal("New returned one pack twice")
	}
	add(t, q, ab)
	same(t, q, ab)
	add(t, p, ab)
	same(t, p, ab+"\xc0\x00")
	same(t, q, ab)
}

func TestOutDoesNotChangeLater(t *testing.T) { // R3
	p := New()
	at := p.Mark()
	p.Add("abc")
	s := p.Out()
	p.Close(at)
	if s != "\x00\x00abc" {
		t.Errorf("an earlier Out became %q", s)
	}
	same(t, p, "\x00\x03abc")
}

func TestNameIsCompressed(t *testing.T) { // P3.1
	for _, c := range []struct {
		names []string
		want  string
	}{
		{[]string{root}, "\x00"},
		{[]string{root, root}, "\x00\x00"}, // the root is never known
		{[]string{ab}, ab},
		{[]string{ab, root, ab}, ab + "\x00\xc0\x00"},
		{[]string{wwwAb, ab}, wwwAb + "\xc0\x04"}, // the example
		{[]string{wwwAb, wwwAb}, wwwAb + "\xc0\x00"},
		{[]string{ab, wwwAb}, ab + "\x03www\xc0\x00"},
		{[]string{wwwAb, cAb}, wwwAb + "\x01c\xc0\x04"},
		{[]string{wwwAb, cAb, cAb}, wwwAb + "\x01c\xc0\x04\xc0\x08"},
		{[]string{wwwAb, cAb, xCAb}, wwwAb + "\x01c\xc0\x04\x01x\xc0\x08"},
		{[]string{wwwAb, xCAb, cAb}, wwwAb + "\x01x\x01c\xc0\x04\xc0\x0a"},
		{[]string{wwwAb, xCAb, ab}, wwwAb + "\x01x\x01c\xc0\x04\xc0\x04"},
		// Parents are the last labels alone: neither the first labels, nor labels that end alike.
		{[]string{wwwAb, "\x03www\x00"}, wwwAb + "\x03www\x00"},
		{[]string{ab, "\x01b\x00"}, ab + "\x01b\x00"},
		{[]string{ab, "\x03cab\x00"}, ab + "\x03cab\x00"},
		{[]string{ab, "\x02ab\x02ab\x00"}, ab + "\x02ab\xc0\x00"},
		{[]string{"\x02ab\x02ab\x00", ab}, "\x02ab\x02ab\x00\xc0\x03"},
		{[]string{deep255, "\x01a\x00"}, deep255 + "\xc0\xfc"},
		{[]string{deep255, deep255}, deep255 + "\xc0\x00"},
		{[]string{name255, name255}, name255 + "\xc0\x00"},
	} {
		same(t, packed(t, c.names...), c.want)
	}
}

func TestBytesThatWereAddedAreNoKnownName(t *testing.T) { // P3.1
	p := New()
	p.Add(ab)
	add(t, p, ab)
	add(t, p, ab)
	same(t, p, ab+ab+"\xc0\x04")
}

func TestKnownNamesHaveTheirFirstOffset(t *testing.T) { // P3.1
	p := packed(t, ab)
	for range 3 {
		p.Add("-")
		add(t, p, ab)
		add(t, p, wwwAb)
	}
	same(t, p, ab+"-\xc0\x00\x03www\xc0\x00-\xc0\x00\xc0\x07-\xc0\x00\xc0\x07")
}

// far returns a pack with so many bytes, of which none is of a name.
func far(many int) *Pack {
	p := New()
	p.Add(strings.Repeat("-", many))
	return p
}

func TestNamesBelow16384AreKnown(t *testing.T) { // P3.1
	for _, at := range []int{0, 1, 63, 64, 255, 256, 8192, 16383, 16384, 16385, 32768, 49152, 65535, 65536, 70000} {
		p := far(at)
		add(t, p, ab)
		add(t, p, ab)
		want := ab + ab
		if at < 16384 {
			want = ab + string([]byte{0xc0 | byte(at>>8), byte(at)})
		}
		if got := p.Out()[at:]; got != want {
			t.Errorf("at %d: %q, want %q", at, got, want)
		}
		n, next, err := Take(p.Out(), at+len(ab))
		if n != ab || next != p.Len() || err != api.OK {
			t.Errorf("at %d: read back %q, %d, %d", at, n, next, err)
		}
	}
}

func TestANameAcross16384IsKnownInPart(t *testing.T) { // P3.1
	for at, want := range map[int]string{
		16379: wwwAb + "\xff\xfb" + "\xff\xff", // ab. is at 16383
		16380: wwwAb + "\xff\xfc" + ab,         // ab. is at 16384
		16383: wwwAb + "\xff\xff" + ab,
		16384: wwwAb + wwwAb + ab,
	} {
		p := far(at)
		add(t, p, wwwAb)
		add(t, p, wwwAb)
		add(t, p, ab)
		if got := p.Out()[at:]; got != want {
			t.Errorf("at %d: %q, want %q", at, got, want)
		}
	}
	// Behind 16384 a known parent is pointed at, but nothing becomes known.
	p := packed(t, ab)
	p.Add(strings.Repeat("-", 16380))
	add(t, p, cAb)
	add(t, p, xCAb)
	add(t, p, cAb)
	if got := p.Out()[16384:]; got != "\x01c\xc0\x00\x01x\x01c\xc0\x00\x01c\xc0\x00" {
		t.Errorf("behind 16384: %q", got)
	}
}

func TestNameRefusesWhatIsNoName(t *testing.T) { // P3.1, R1
	for _, n := range notNames {
		p := packed(t, wwwAb)
		if err := p.Name(n); err != api.ErrArg {
			t.Errorf("Name(%q) = %d", n, err)
		}
		same(t, p, wwwAb)
		// What is refused makes nothing known, and nothing unknown.
		add(t, p, ab)
		add(t, p, "\x01a\x00")
		add(t, p, root)
		same(t, p, wwwAb+"\xc0\x04\x01a\x00\x00")
	}
}

func TestMarkAndClose(t *testing.T) { // P3.1
	p := New()
	if at := p.Mark(); at != 2 {
		t.Errorf("Mark() = %d", at)
	}
	same(t, p, "\x00\x00")
	p.Add("abc")
	outer := p.Mark()
	inner := p.Mark()
	if outer != 7 || inner != 9 {
		t.Errorf("Mark() = %d, then %d", outer, inner)
	}
	same(t, p, "\x00\x00abc\x00\x00\x00\x00")
	p.Add("xyz")
	for _, at := range []int{inner, outer, 2} {
		if err := p.Close(at); err != api.OK {
			t.Errorf("Close(%d) = %d", at, err)
		}
	}
	same(t, p, "\x00\x0aabc\x00\x05\x00\x03xyz")
	p.Add("!")
	if err := p.Close(outer); err != api.OK { // a length may be written again
		t.Errorf("Close again = %d", err)
	}
	same(t, p, "\x00\x0aabc\x00\x06\x00\x03xyz!")
}

func TestCloseAtItsEdges(t *testing.T) { // P3.1
	p := New()
	if err := p.Close(p.Mark()); err != api.OK {
		t.Errorf("Close with nothing between = %d", err)
	}
	same(t, p, "\x00\x00")
	p = New()
	p.Add("abcde")
	if err := p.Close(5); err != api.OK { // at the end
		t.Errorf("Close(5) = %d", err)
	}
	same(t, p, "abc\x00\x00")
	if err := p.Close(2); err != api.OK {
		t.Errorf("Close(2) = %d", err)
	}
	same(t, p, "\x00\x03c\x00\x00")
	if err := p.Close(3); err != api.OK {
		t.Errorf("Close(3) = %d", err)
	}
	same(t, p, "\x00\x00\x02\x00\x00")
}

func TestCloseWritesTheLengthModulo65536(t *testing.T) { // P3.1
	for _, many := range []int{0, 1, 255, 256, 258, 32768, 65534, 65535, 65536, 65537, 65536 + 258, 131071, 131072, 131073} {
		p := New()
		p.Add("ab")
		at := p.Mark()
		body := strings.Repeat("-", many)
		p.Add(body)
		if err := p.Close(at); err != api.OK {
			t.Errorf("Close after %d bytes = %d", many, err)
		}
		if got, want := p.Out(), "ab"+string([]byte{byte(many / 256 % 256), byte(many % 256)})+body; got != want {
			t.Errorf("%d bytes: the length is %q", many, got[2:4])
		}
	}
}

func TestCloseRefuses(t *testing.T) { // P3.1, R1
	for _, s := range []string{"", "a", "ab", "abc", "abcdefgh"} {
		for _, at := range []int{math.MinInt, math.MinInt + 1, -65536, -2, -1, 0, 1, len(s) + 1, len(s) + 2, len(s) + 3, 65536 + 2, math.MaxInt - 1, math.MaxInt} {
			if at >= 2 && at <= len(s) {
				continue
			}
			p := New()
			p.Add(s)
			if err := p.Close(at); err != api.ErrArg {
				t.Errorf("Close(%d) of %q = %d", at, s, err)
			}
			same(t, p, s)
		}
	}
}

func TestCloseLeavesKnownNames(t *testing.T) { // P3.1
	p := packed(t, ab)
	at := p.Mark()
	add(t, p, wwwAb)
	if err := p.Close(at); err != api.OK {
		t.Fatalf("Close(%d) = %d", at, err)
	}
	add(t, p, wwwAb)
	same(t, p, ab+"\x00\x06\x03www\xc0\x00\xc0\x06")
}

func TestNilPack(t *testing.T) { // P3.1, P1
	var p *Pack
	p.Add("abc")
	for _, n := range []string{root, ab, "", "\x01A\x00"} {
		if err := p.Name(n); err != api.ErrArg {
			t.Errorf("Name(%q) = %d", n, err)
		}
	}
	for _, at := range []int{-1, 0, 2, 3} {
		if err := p.Close(at); err != api.ErrArg {
			t.Errorf("Close(%d) = %d", at, err)
		}
	}
	if p.Mark() != 0 || p.Len() != 0 || p.Out() != "" {
		t.Errorf("Mark() = %d, Len() = %d, Out() = %q", p.Mark(), p.Len(), p.Out())
	}
}

func TestPackThatNewDidNotMakeIsEmpty(t *testing.T) { // P1
	var p Pack
	same(t, &p, "")
	add(t, &p, ab)
	add(t, &p, wwwAb)
	if at := p.Mark(); at != 12 {
		t.Errorf("Mark() = %d", at)
	}
	same(t, &p, ab+"\x03www\xc0\x00\x00\x00")
}

func TestTake(t *testing.T) { // P3.2
	s := wwwAb + "\x01c\xc0\x04\x00\xc0\x04\x01X\xc0\x08!"
	reads(t, s, 0, wwwAb, 8)
	reads(t, s, 4, ab, 8) // within a name
	reads(t, s, 7, root, 8)
	reads(t, s, 8, cAb, 12)
	reads(t, s, 10, ab, 12) // a pointer without labels
	reads(t, s, 12, root, 13)
	reads(t, s, 13, ab, 15)
	reads(t, s, 15, xCAb, 19) // after the first pointer of two
	reads(t, "--\x00", 2, root, 3)
	reads(t, "\x00\xc0\x00", 1, root, 3)
	reads(t, "\x02ab\x00\x00", 0, ab, 4)
	reads(t, "\x02ab\x00\xff", 0, ab, 4)
	// Labels may contain any bytes, also such as would be lengths or pointers.
	reads(t, "\x04\x00\xc0.\\\x00", 0, "\x04\x00\xc0.\\\x00", 6)
}

func TestTakeFolds(t *testing.T) { // P3.2
	reads(t, "\x03WwW\x02AB\x00", 0, wwwAb, 8)
	reads(t, "\x02AZ\x00\x02@[\xc0\x00", 4, "\x02@[\x02az\x00", 9)
	for c := range 256 {
		want := c
		if c >= 65 && c <= 90 {
			want += 32
		}
		reads(t, string([]byte{1, byte(c), 0}), 0, string([]byte{1, byte(want), 0}), 3)
	}
}

// TestTakeGivesTheOffsetAfterTheFirstPointer has, in the second case, a label that begins before the pointer and ends
// behind it.
func TestTakeGivesTheOffsetAfterTheFirstPointer(t *testing.T) { // P3.2
	reads(t, ab+"\xc0\x00\xc0\x04\xc0\x06", 8, ab, 10)
	reads(t, "\x05\x01a\xc0\x00b\x00", 1, "\x01a\x05\x01a\xc0\x00b\x00", 5)
}

func TestTakeFollowsPointersBackwardsOnly(t *testing.T) { // P3.2
	for _, s := range []string{"\xc0\x00", "\xc0\x01", "\xc0\x02\x00", "\x01a\xc0\x00", "\x01a\xc0\x01", "\x01a\xc0\x02", "\x01a\xc0\x04\x00", "\x01a\xc0\x05xx\x00", "\xff\xff\x00", "\x01a\xff\xff"} {
		refuses(t, s, 0)
	}
	s := "\x00\x00\x00\x01a\x01b\xc0"
	for to := range 10 {
		if to < 3 {
			reads(t, s+string([]byte{byte(to)}), 3, "\x01a\x01b\x00", 9)
		} else {
			refuses(t, s+string([]byte{byte(to)}), 3) // its own labels, itself, what is behind
		}
	}
	refuses(t, "\x02\x00\x00\xc0\x01", 0)    // to a zero byte within its own label
	refuses(t, "\x01a\x01b\xc0\x00", 2)      // to labels that end with this same pointer
	refuses(t, "\x01a\xc0\x06--\xc0\x00", 6) // there and back
}

// TestAPointerIsHeldAgainstItsOwnLabels has labels after a pointer that end with another pointer: not the begin of the
// name counts for it, but the begin of these labels.
func TestAPointerIsHeldAgainstItsOwnLabels(t *testing.T) { // P3.2
	reads(t, "\x00\x01a\xc0\x00\x01b\xc0\x01", 5, "\x01b\x01a\x00", 9)
	refuses(t, "\x00\x01a\xc0\x01\x01b\xc0\x01", 5)
	refuses(t, "\x00\x01a\xc0\x03\x01b\xc0\x01", 5)
	refuses(t, "\x00\x01a\xc0\x05\x01b\xc0\x01", 5)
}

func TestTakeOfPointersInTheWholeRange(t *testing.T) { // P3.2
	s := []byte(strings.Repeat("-", 16390))
	for _, to := range []int{0, 1, 255, 256, 4096, 8192, 16383} {
		copy(s[to:], ab)
		reads(t, string(s)+string([]byte{0xc0 | byte(to>>8), byte(to)}), 16390, ab, 16392)
	}
}

func TestTakeOfEveryLengthByte(t *testing.T) { // P3.2
	for size := range 192 {
		s := string([]byte{byte(size)}) + strings.Repeat("a", size) + root
		switch {
		case size == 0:
			reads(t, s, 0, root, 1)
		case size <= 63:
			reads(t, s, 0, s, len(s))
		default:
			refuses(t, s, 0)
		}
	}
	for _, size := range []string{"\x40", "\x41", "\x5a", "\x7f", "\x80", "\xbf"} { // 64 to 191
		refuses(t, size, 0)
		refuses(t, size+strings.Repeat("\x00", 300), 0)
		refuses(t, "\x00\x01a"+size+"\x00", 1)
		refuses(t, size+"\x00\xc0\x00", 2)
	}
	zeros := strings.Repeat("\x00", 70000)
	for size := 64; size < 192; size++ { // no pointer, though there are bytes before it
		refuses(t, zeros+string([]byte{byte(size), 5}), len(zeros))
	}
	for first := 192; first < 256; first++ { // pointers, with all of their bits
		s := []byte(strings.Repeat("\x01", 16384))
		copy(s[(first-192)*256+5:], ab)
		reads(t, string(s)+string([]byte{byte(first), 5}), len(s), ab, len(s)+2)
	}
}

func TestTakeOfTooFewBytes(t *testing.T) { // P3.2, R1
	whole := "\x00\x03www\x02ab\x00\x3f" + label63 + "\xc0\x00"
	for end := range 9 { // before, within and after each label
		refuses(t, whole[:end], 1)
	}
	reads(t, whole[:9], 1, wwwAb, 9)
	for end := 9; end < len(whole); end++ { // within a label, before and within a pointer
		refuses(t, whole[:end], 9)
	}
	reads(t, whole, 9, "\x3f"+label63+"\x00", len(whole))
	refuses(t, "\x01a\xc0", 0)
	refuses(t, "\xc0", 0)
	refuses(t, "\x05abc\x00", 0)
}

func TestTakeAtNoOffset(t *testing.T) { // P3.2, R1
	for _, s := range []string{"", "\x00", ab, wwwAb + "\xc0\x04"} {
		for _, at := range []int{-1, -2, -len(s), -len(s) - 1, math.MinInt, math.MinInt + 1, len(s), len(s) + 1, len(s) + 2, 16384, math.MaxInt - 63, math.MaxInt - 1, math.MaxInt} {
			if at < 0 || at >= len(s) {
				refuses(t, s, at)
			}
		}
	}
}

func TestTakeOfLongNames(t *testing.T) { // P3.2
	reads(t, name255, 0, name255, 255)
	reads(t, deep255, 0, deep255, 255)
	refuses(t, name256, 0)
	refuses(t, deep257, 0)
	refuses(t, strings.Repeat("\x01a", 5000)+root, 0)
	// The bytes of the name count, not those of its encoding.
	for size := 1; size <= 63; size++ {
		s := name255 + string([]byte{byte(size)}) + label63[:size] + "\xc0\x40"
		reads(t, s, 255, s[255:255+1+size]+name255[64:], len(s))
	}
	refuses(t, name255+"\x01a\xc0\x00", 255)
	reads(t, name255+"\x01a\xc0\x40", 255, "\x01a"+name255[64:], 259)
	reads(t, deep255+"\x01b\xc0\x02", 255, "\x01b"+deep255[2:], 259)
	refuses(t, deep255+"\x02bb\xc0\x02", 255) // 256 bytes
	refuses(t, deep255+"\x01b\xc0\x00", 255)  // 257 bytes
	reads(t, deep255+"\xc0\x00", 255, deep255, 257)
}

func TestTakeEndsWithManyPointers(t *testing.T) { // P3.3, P1
	var b strings.Builder
	b.WriteString(root + "\x00")
	for to := 0; to < 16384; to += 2 {
		b.WriteString(string([]byte{0xc0 | byte(to>>8), byte(to)}))
	}
	s := b.String()
	reads(t, s, len(s)-2, root, len(s))
	// Labels of which each overlaps the next ones.
	wide := strings.Repeat("\x3f", 16000)
	for at := range 100 {
		refuses(t, wide+strings.Repeat("\xff\x00", 100), at)
	}
}

// someNames are names that share parents, with the edges of length and depth among them.
var someNames = []string{
	root, ab, wwwAb, cAb, xCAb, "\x01a\x00", "\x01a\x01a\x00", "\x01a\x01a\x01a\x00", "\x01a\x02ab\x00", "\x03www\x00",
	name255, name255[64:], name255[128:], deep255, deep255[2:], deep255[200:], "\x3f" + label63 + root,
	"\x01\x00\x00", "\x02\xc0\x00\x00", "\x02\xc0\x00\x02ab\x00", "\x01\xff\x01a\x00", "\x04\x02ab\x00\x00",
}

// rows is a sequence of numbers that looks irregular, and is the same in each run.
type rows uint32

func (r *rows) below(n int) int {
	*r = *r*1664525 + 1013904223
	return int(*r>>16) % n
}

func TestNamesAreReadBack(t *testing.T) { // P3.3
	for seed := range 60 {
		r := rows(seed)
		p := far(r.below(2) * r.below(16500))
		var at []int
		var names []string
		for range 200 {
			switch r.below(6) {
			case 0:
				p.Add(strings.Repeat(string([]byte{byte(r.below(256))}), r.below(300)))
			case 1:
				mark := p.Mark()
				p.Add(strings.Repeat("\xc0", r.below(20)))
				p.Close(mark)
			default:
				n := someNames[r.below(len(someNames))]
				at, names = append(at, p.Len()), append(names, n)
				add(t, p, n)
				if _, next, _ := Take(p.Out(), at[len(at)-1]); next != p.Len() {
					t.Fatalf("seed %d: %q at %d ends at %d, but %d were written", seed, n, at[len(at)-1], next, p.Len())
				}
			}
		}
		s := p.Out()
		for i := range at {
			if n, _, err := Take(s, at[i]); n != names[i] || err != api.OK {
				t.Fatalf("seed %d: %q at %d is read back as %q, %d", seed, names[i], at[i], n, err)
			}
		}
	}
}

// plain is the encoding of a pack, worked out from the words of the document alone, by a list of all that was written.
type plain struct {
	out   string
	names []string
	at    []int
}

func (p *plain) find(n string) int {
	for i, known := range p.names {
		if known == n {
			return p.at[i]
		}
	}
	return -1
}

func (p *plain) name(n string) {
	for n != root {
		if at := p.find(n); at >= 0 {
			p.out += string([]byte{byte(192 + at/256), byte(at % 256)})
			return
		}
		if len(p.out) < 16384 {
			p.names, p.at = append(p.names, n), append(p.at, len(p.out))
		}
		size := 1 + int(n[0])
		p.out += n[:size]
		n = n[size:]
	}
	p.out += root
}

// FuzzPack adds what the bytes of ops tell, to a pack and to a plain one: P3.1 and P3.3.
func FuzzPack(f *testing.F) {
	f.Add("\x01\x02\x03\x04\x05", 0)
	f.Add("\x02\x41\x02\x42\x02", 16380)
	f.Add("\x0a\x0b\x0c\x0d\x0e\x0f\x10\x11\x12\x13\x14\x15\x00", 16100)
	f.Fuzz(func(t *testing.T, ops string, before int) {
		if before < 0 || before > 70000 || len(ops) > 500 {
			return
		}
		p := far(before)
		want := plain{out: p.Out()}
		for i := range len(ops) {
			if ops[i] >= 0x40 {
				s := ops[:min(i, int(ops[i]-0x40))]
				p.Add(s)
				want.out += s
				continue
			}
			n := someNames[int(ops[i])%len(someNames)]
			at := p.Len()
			add(t, p, n)
			want.name(n)
			if got, next, err := Take(p.Out(), at); got != n || next != p.Len() || err != api.OK {
				t.Fatalf("%q at %d is read back as %q, %d, %d", n, at, got, next, err)
			}
		}
		if p.Out() != want.out || p.Len() != len(want.out) {
			t.Fatalf("%q, want %q", p.Out()[before:], want.out[before:])
		}
	})
}

// plainTake reads a name as the document tells, by recursion over the pointers. The second result is the offset after
// the first sequence of labels, and its zero byte or pointer.
func plainTake(s string, at int) (string, int, bool) {
	n := ""
	for i := at; i >= 0 && i < len(s); {
		c := int(s[i])
		switch {
		case c == 0:
			return n + root, i + 1, true
		case c < 64 && i+c < len(s):
			n += s[i : i+1+c]
			i += 1 + c
		case c >= 192 && i+1 < len(s) && (c-192)*256+int(s[i+1]) < at:
			rest, _, ok := plainTake(s, (c-192)*256+int(s[i+1]))
			return n + rest, i + 2, ok
		default:
			return "", 0, false
		}
	}
	return "", 0, false
}

// FuzzTake holds Take against plainTake, for any bytes and any offset: P1, P3.2 and P3.3.
func FuzzTake(f *testing.F) {
	f.Add(wwwAb+"\x01c\xc0\x04\x00\xc0\x04\x01X\xc0\x08", 15)
	f.Add("\x00\x01a\xc0\x00\x01b\xc0\x01", 5)
	f.Add(deep255+"\x01b\xc0\x02", 255)
	f.Add("\x02A\x01a\xc0\x00\xc0\x01", 6)
	f.Add("", math.MinInt)
	f.Fuzz(func(t *testing.T, s string, at int) {
		want, after, ok := plainTake(s, at)
		if !ok || len(want) > 255 {
			refuses(t, s, at)
			return
		}
		reads(t, s, at, name.Fold(want), after)
		if n, _, _ := Take(s, at); !name.May(n) {
			t.Fatalf("Take(%q, %d) = %q, which is no name", s, at, n)
		}
	})
}

func ExamplePack() {
	p := New()
	p.Name("\x03www\x02ab\x00")
	p.Name("\x02ab\x00")
	fmt.Printf("%q\n", p.Out())
	n, next, err := Take(p.Out(), 8)
	fmt.Printf("%q %d %d\n", n, next, err)
	// Output:
	// "\x03www\x02ab\x00\xc0\x04"
	// "\x02ab\x00" 10 0
}
