package hash

import (
	"fmt"
	"hash/fnv"
	"math"
	"slices"
	"strings"
	"testing"

	"derrick/api"
)

// texts are strings at which a hash of fewer bits, of signed bytes, of runes, or of a part of the string shows.
var texts = []string{
	"", "a", "b", "A", "ab", "ba", "foobar",
	"\x00", "\x01", "\x7f", "\x80", "\x81", "\xfe", "\xff",
	"\x00\x00", "\x00\x00\x00\x00", "\x80\x80", "\xff\xff", "a\x00", "\x00a", "a\x80b\xffc",
	"é", "日本", "\xc3", "\xef\xbf\xbd", "\xed\xa0\x80", // runes, and bytes that are none
	"\x01a\x00\x00\x01\x00\x01", "\x03www\x02ab\x00",
	"\xcc\x24\x31\xc4", "\xcc\x24\x31\xc4a", "\xcc\x24\x31\xc4\x00", // the hash of the first is 0
	strings.Repeat("\x00", 1000), strings.Repeat("\x80", 255), strings.Repeat("\xff", 256), strings.Repeat("\xff", 70000),
	strings.Repeat("a", 255), strings.Repeat("ab", 300), strings.Repeat("a", 65535) + "b",
}

// labels are names of questions. Some are no valid names, and some continue others with what could be a type or a class.
var labels = []string{
	"", "\x00", "\x01a\x00", "\x01A\x00", "\x01b\x00", "\x02ab\x00", "\x03www\x02ab\x00",
	"\x01a", "\x01a\x00\x00", "\x01a\x00\x00\x01", "\x01a\x00\x00\x01\x00\x01", "\x00\x00\x00\x00", "\x00\xff\xff\xff\xff",
	"no name", "é", "\x80\xff", strings.Repeat("\x3fabcdefghijklmnopqrstuvwxyz0123456789abcdefghijklmnopqrstuvwxyz0", 4), strings.Repeat("a", 70000),
}

// numbers are types and classes of which a byte that is lost or swapped shows.
var numbers = []uint16{0, 1, 2, 28, 127, 128, 254, 255, 256, 257, 258, 513, 0x7fff, 0x8000, 0xff00, 0xfffe, 0xffff}

// outside are numbers of shards that there may not be. Some may be if only some of their bits are regarded, or if the sign is not.
var outside = []int{
	0, 17, 18, 31, 32, 64, 127, 128, 255, 256, 257, 258, 272, 65535, 65536, 65538, 65552,
	1<<31 - 1, 1 << 31, 1<<31 + 2, 1<<32 - 1, 1 << 32, 1<<32 + 1, 1<<32 + 3, 1<<32 + 16, 1<<48 + 2, math.MaxInt - 1, math.MaxInt,
	-1, -2, -3, -15, -16, -17, -254, -256, -65534, -1 << 31, 2 - 1<<32, 3 - 1<<32, math.MinInt, math.MinInt + 1, math.MinInt + 2, math.MinInt + 16,
}

// questions has every name with many types and classes.
func questions() []api.Question {
	var l []api.Question
	for _, n := range labels {
		for i, kind := range numbers {
			for j, class := range numbers {
				if len(n) < 1000 || i == j { // a few of the long ones are enough
					l = append(l, api.Question{Name: n, Type: kind, Class: class})
				}
			}
		}
	}
	return l
}

// asked is the question whose name is that.
func asked(n string, kind, class uint16) api.Question {
	return api.Question{Name: n, Type: kind, Class: class}
}

// told is a question as a test tells it, with the begin of its name alone, as there are long ones.
func told(q api.Question) string {
	return fmt.Sprintf("%.20q %d %d", q.Name, q.Type, q.Class)
}

// hashed is what the library takes for the hash of a string.
func hashed(s string) uint32 {
	h := fnv.New32a()
	h.Write([]byte(s))
	return h.Sum32()
}

// written is a question as P9.1 says that its key is.
func written(q api.Question) string {
	return string(append([]byte(q.Name), byte(q.Type/256), byte(q.Type%256), byte(q.Class/256), byte(q.Class%256)))
}

// assigned is the shard that P9.2 says.
func assigned(q api.Question, many int) int {
	if many < 1 || many > 16 {
		return 0
	}
	return int(uint64(hashed(written(q))) % uint64(many))
}

func of(t *testing.T, s string, want uint32) {
	t.Helper()
	if got := Of(s); got != want {
		t.Errorf("Of(%.20q of %d bytes) = %d, want %d", s, len(s), got, want)
	}
}

// step sees to it that a byte more is a step more.
func step(t *testing.T, s string, b byte) {
	t.Helper()
	// In 64 bits, so that the product doesn't wrap round by itself.
	of(t, s+string([]byte{b}), uint32(uint64(Of(s)^uint32(b))*16777619%(1<<32)))
}

func key(t *testing.T, q api.Question, want string) {
	t.Helper()
	if got := Key(q); got != want {
		t.Errorf("Key(%s) = %.40q, want %.40q", told(q), got, want)
	}
}

func shard(t *testing.T, q api.Question, many, want int) {
	t.Helper()
	if got := Shard(q, many); got != want {
		t.Errorf("Shard(%s, %d) = %d, want %d", told(q), many, got, want)
	}
}

// spread asks Spread, and sees to it that the questions stay as they were.
func spread(t *testing.T, l []api.Question, many int, want []int) {
	t.Helper()
	before := slices.Clone(l)
	if got := Spread(l, many); !slices.Equal(got, want) {
		t.Errorf("Spread(%d questions, %d) = %v, want %v", len(l), many, got, want)
	}
	if !slices.Equal(l, before) {
		t.Errorf("Spread changed some of %d questions", len(l))
	}
}

func TestOfKnownStrings(t *testing.T) { // P9.1
	of(t, "", 2166136261)
	of(t, "a", 3826002220)
	of(t, "foobar", 0xbf9cf968)
	of(t, "\x00", 84696351)
	of(t, "\x80", 2232128415)
	of(t, "\xff", 2047574606)
	of(t, "\xff\xff", 3508452515)
	of(t, "\x00\x00\x00\x00", 1268118805)
	of(t, "\x03www\x02ab\x00", 2920006358)
	of(t, "\xcc\x24\x31\xc4", 0)
	of(t, strings.Repeat("a", 255), 3539837222)
	of(t, strings.Repeat("\x00", 1000), 837085925)
	of(t, strings.Repeat("\xff", 70000), 1984974869)
}

func TestOfIsWhatTheLibrarySays(t *testing.T) { // P9.1
	for _, s := range texts {
		of(t, s, hashed(s))
	}
	for n := range 600 {
		s := strings.Repeat("x", n)
		of(t, s, hashed(s))
	}
}

func TestOfEveryByte(t *testing.T) { // P9.1
	seen := map[uint32]bool{}
	for b := range 256 {
		s := string([]byte{byte(b)})
		of(t, s, hashed(s))
		seen[Of(s)] = true
	}
	if len(seen) != 256 {
		t.Errorf("the 256 bytes have %d hashes", len(seen))
	}
}

func TestAByteMoreIsAStepMore(t *testing.T) { // P9.1
	for _, s := range texts {
		for _, b := range []byte{0, 1, 'a', 127, 128, 254, 255} {
			step(t, s, b)
		}
	}
	for b := range 256 {
		step(t, "", byte(b))
		step(t, "\x03www", byte(b))
	}
}

func TestOfRegardsTheOrderOfTheBytes(t *testing.T) { // P9.1
	for _, pair := range [][2]string{{"ab", "ba"}, {"\x00a", "a\x00"}, {"\x00\x01", "\x01\x00"}, {"aab", "aba"}, {"\x80\x7f", "\x7f\x80"}} {
		if Of(pair[0]) == Of(pair[1]) {
			t.Errorf("Of(%q) = Of(%q)", pair[0], pair[1])
		}
	}
}

func TestKeyOfKnownQuestions(t *testing.T) { // P9.1
	key(t, api.Question{}, "\x00\x00\x00\x00")
	key(t, asked("\x00", api.A, api.IN), "\x00\x00\x01\x00\x01")
	key(t, asked("\x02ab\x00", api.NS, api.IN), "\x02ab\x00\x00\x02\x00\x01")
	key(t, asked("\x01a\x00", 0x0102, 0x0304), "\x01a\x00\x01\x02\x03\x04")
	key(t, asked("\x01a\x00", 255, 256), "\x01a\x00\x00\xff\x01\x00")
	key(t, asked("\x01a\x00", 256, 255), "\x01a\x00\x01\x00\x00\xff")
	key(t, asked("\x01a\x00", 0, 65535), "\x01a\x00\x00\x00\xff\xff")
	key(t, asked("\x01a\x00", 65535, 0), "\x01a\x00\xff\xff\x00\x00")
	key(t, asked("\x01a\x00", 0, 0), "\x01a\x00\x00\x00\x00\x00")
	key(t, asked("\x01a\x00", 65535, 65535), "\x01a\x00\xff\xff\xff\xff")
}

func TestKeyTakesTheNameAsItIs(t *testing.T) { // P9.1, R5
	key(t, asked("", 1, 1), "\x00\x01\x00\x01")
	key(t, asked("\x01A\x00", 1, 1), "\x01A\x00\x00\x01\x00\x01") // not \x01a
	key(t, asked("no name", 1, 1), "no name\x00\x01\x00\x01")
	key(t, asked("\x80\xff", 1, 1), "\x80\xff\x00\x01\x00\x01")
	for _, q := range questions() {
		key(t, q, written(q))
	}
}

func TestKeysOfQuestionsThatDifferInOneThing(t *testing.T) { // P9.1, P9.3
	for _, q := range questions() {
		if len(q.Name) > 1000 {
			continue
		}
		var l []api.Question
		for _, n := range labels {
			l = append(l, asked(n, q.Type, q.Class))
		}
		for _, n := range numbers {
			l = append(l, asked(q.Name, n, q.Class), asked(q.Name, q.Type, n))
		}
		for _, other := range l {
			if (Key(q) == Key(other)) != (q == other) {
				t.Fatalf("%s and %s have the keys %q and %q", told(q), told(other), Key(q), Key(other))
			}
		}
	}
}

func TestEveryTypeAndEveryClassHasItsKey(t *testing.T) { // P9.3
	seen := map[string]api.Question{}
	for n := range 1 << 16 {
		for _, q := range []api.Question{asked("\x01a\x00", uint16(n), 5), asked("\x01a\x00", 5, uint16(n))} {
			if other, ok := seen[Key(q)]; ok && other != q {
				t.Fatalf("%s and %s have the same key", told(q), told(other))
			}
			seen[Key(q)] = q
		}
	}
	if len(seen) != 2<<16-1 { // one of them is of both kinds
		t.Errorf("%d keys", len(seen))
	}
}

func TestDifferentQuestionsHaveDifferentKeys(t *testing.T) { // P9.3
	l, seen := questions(), map[string]api.Question{}
	for _, q := range l {
		if other, ok := seen[Key(q)]; ok {
			t.Fatalf("%s and %s have the same key", told(q), told(other))
		}
		seen[Key(q)] = q
	}
	// Where the name ends shows, as what is moved from it to the type, or from the type to the class, is missing behind.
	for _, pair := range [][2]api.Question{
		{asked("a\x00\x01", 1, 1), asked("a", 1, 1)},
		{asked("a\x00\x01\x00\x01", 0, 0), asked("a", 1, 1)},
		{asked("a\x00", 0x0100, 0x0100), asked("a", 1, 1)},
		{asked("a", 1, 0), asked("a", 0, 1)},
		{asked("a", 0x0102, 0x0304), asked("a", 0x0304, 0x0102)},
		{asked("a", 0x0102, 1), asked("a", 0x0201, 1)},
		{asked("ab", 1, 1), asked("ba", 1, 1)},
	} {
		if Key(pair[0]) == Key(pair[1]) {
			t.Errorf("%s and %s have the same key", told(pair[0]), told(pair[1]))
		}
	}
}

func TestShardOfKnownQuestions(t *testing.T) { // P9.2
	for many, want := range map[int][4]int{
		1: {0, 0, 0, 0}, 2: {1, 0, 1, 0}, 3: {1, 2, 1, 2}, 4: {3, 2, 1, 2}, 5: {2, 1, 0, 0}, 7: {6, 4, 2, 0},
		11: {0, 5, 8, 3}, 13: {10, 7, 5, 11}, 15: {7, 11, 10, 5}, 16: {11, 6, 5, 14},
	} {
		shard(t, asked("\x02ab\x00", api.NS, api.IN), many, want[0]) // a hash with the highest bit
		shard(t, asked("\x02ab\x00", api.A, api.IN), many, want[1])
		shard(t, api.Question{}, many, want[2])
		shard(t, asked("\x01a\x00", api.AAAA, api.IN), many, want[3])
	}
}

func TestShardIsTheHashOfTheKey(t *testing.T) { // P9.2
	for _, q := range questions() {
		for many := range 20 {
			if len(q.Name) < 1000 || many == 16 {
				shard(t, q, many, assigned(q, many))
			}
		}
	}
}

func TestShardIfThereMayNotBeSoMany(t *testing.T) { // P9.2, P1
	for _, many := range outside {
		for _, n := range labels[:16] {
			for _, kind := range numbers {
				shard(t, asked(n, kind, api.IN), many, 0)
			}
		}
	}
	for many := -1000; many <= 1000; many++ {
		if many < 1 || many > 16 {
			shard(t, asked("\x02ab\x00", api.NS, api.IN), many, 0)
		}
	}
}

func TestEachQuestionBelongsToOneShardAlways(t *testing.T) { // P9.3
	l := questions()
	for many := 1; many <= 16; many++ {
		reached := map[int]int{}
		first := make([]int, len(l))
		for i, q := range l {
			first[i] = Shard(q, many)
			if first[i] < 0 || first[i] >= many {
				t.Fatalf("%s belongs to shard %d of %d", told(q), first[i], many)
			}
			reached[first[i]]++
		}
		for i := len(l) - 1; i >= 0; i-- { // after others than before
			shard(t, l[i], many, first[i])
		}
		if len(reached) != many {
			t.Errorf("of %d shards, questions belong to %d", many, len(reached))
		}
	}
}

func TestSpreadOfKnownQuestions(t *testing.T) { // P9.2
	l := []api.Question{asked("\x02ab\x00", api.NS, api.IN), asked("\x02ab\x00", api.A, api.IN), {}, asked("\x01a\x00", api.AAAA, api.IN)}
	spread(t, l, 1, []int{4})
	spread(t, l, 2, []int{2, 2})
	spread(t, l, 3, []int{0, 2, 2})
	spread(t, l, 4, []int{0, 1, 2, 1})
	spread(t, l, 5, []int{2, 1, 1, 0, 0})
	spread(t, l, 15, []int{0, 0, 0, 0, 0, 1, 0, 1, 0, 0, 1, 1, 0, 0, 0})
	spread(t, l, 16, []int{0, 0, 0, 0, 0, 1, 1, 0, 0, 0, 0, 1, 0, 0, 1, 0})
}

func TestSpreadOfNoQuestions(t *testing.T) { // P9.2, R2
	for many := 1; many <= 16; many++ {
		spread(t, nil, many, make([]int, many))
		spread(t, []api.Question{}, many, make([]int, many))
		spread(t, questions()[:0], many, make([]int, many)) // with others behind
	}
}

func TestSpreadIfThereMayNotBeSoMany(t *testing.T) { // P9.2, P1
	one := []api.Question{asked("\x02ab\x00", api.NS, api.IN)}
	for _, many := range outside {
		spread(t, nil, many, nil)
		spread(t, []api.Question{}, many, nil)
		spread(t, one, many, nil)
		spread(t, questions()[:50], many, nil)
	}
	for many := -1000; many <= 1000; many++ {
		if many < 1 || many > 16 {
			spread(t, one, many, nil)
		}
	}
}

func TestSpreadCountsEachTime(t *testing.T) { // P9.2
	q, other := asked("\x02ab\x00", api.NS, api.IN), asked("\x02ab\x00", api.A, api.IN)
	for _, times := range []int{1, 2, 3, 255, 256, 300, 65536, 70000} {
		l := slices.Repeat([]api.Question{q}, times)
		spread(t, l, 1, []int{times})
		spread(t, l, 2, []int{0, times})
		spread(t, l, 3, []int{0, times, 0})
		spread(t, l, 4, []int{0, 0, 0, times})
		want := make([]int, 16)
		want[11] = times
		spread(t, l, 16, want)
	}
	spread(t, []api.Question{q, other, q, q, other}, 4, []int{0, 0, 2, 3})
}

func TestSpreadCountsEachQuestionAtItsShardAlone(t *testing.T) { // P9.2, P9.3
	l := questions()[:2000]
	for many := 1; many <= 16; many++ {
		all := make([]int, many)
		for _, q := range l {
			want := make([]int, many)
			want[Shard(q, many)] = 1
			spread(t, []api.Question{q}, many, want)
			all[Shard(q, many)]++
		}
		spread(t, l, many, all)
		slices.Reverse(l) // in another order, they are as many
		spread(t, l, many, all)
	}
}

func TestTheCountsAreTogetherAsManyAsTheQuestions(t *testing.T) { // P9.2, P9.3
	l := questions()
	for many := 1; many <= 16; many++ {
		for _, size := range []int{0, 1, 2, 3, 15, 16, 17, 255, 256, 257, 1000, len(l)} {
			counts, sum := Spread(l[:size], many), 0
			for _, n := range counts {
				sum += n
			}
			if len(counts) != many || sum != size {
				t.Errorf("of %d questions, %d shards have %v", size, many, counts)
			}
		}
	}
}

func TestCountsAreNotShared(t *testing.T) { // R3, R4
	l := questions()[:100]
	first := Spread(l, 4)
	want := slices.Clone(first)
	second := Spread(l, 4)
	for i := range second {
		second[i] = -1
	}
	_ = append(second, -1)
	if !slices.Equal(first, want) {
		t.Errorf("the counts changed from %v to %v", want, first)
	}
	spread(t, l, 4, want) // and nothing of the counts is kept
}

// FuzzStrings holds Of against the library and against its definition, step by step: P1, P9.1.
func FuzzStrings(f *testing.F) {
	for i, s := range texts {
		if len(s) <= 1000 {
			f.Add(s, byte(37*i))
		}
	}
	f.Fuzz(func(t *testing.T, s string, b byte) {
		of(t, s, hashed(s))
		step(t, s, b)
	})
}

// FuzzQuestions holds two questions and their shards against what P9.1 to P9.3 say of them: P1, P9.1, P9.2, P9.3.
func FuzzQuestions(f *testing.F) {
	for i, n := range labels[:len(labels)-1] {
		f.Add(n, labels[(5*i+1)%(len(labels)-1)], numbers[i%len(numbers)], numbers[(3*i+1)%len(numbers)], numbers[(7*i+2)%len(numbers)], numbers[i%len(numbers)], outside[2*i%len(outside)])
		f.Add(n, n, numbers[i%len(numbers)], numbers[i%len(numbers)], uint16(1), uint16(1), i)
	}
	f.Fuzz(func(t *testing.T, name, other string, kind, otherKind, class, otherClass uint16, many int) {
		a, b := asked(name, kind, class), asked(other, otherKind, otherClass)
		key(t, a, written(a))
		if (Key(a) == Key(b)) != (a == b) {
			t.Errorf("%s and %s have the keys %.40q and %.40q", told(a), told(b), Key(a), Key(b))
		}
		for _, m := range []int{many, 1 + int(uint(many)%16)} {
			shard(t, a, m, assigned(a, m))
			shard(t, b, m, assigned(b, m))
			var want []int
			if m >= 1 && m <= 16 {
				want = make([]int, m)
				want[assigned(a, m)] += 2
				want[assigned(b, m)]++
			}
			spread(t, []api.Question{a, b, a}, m, want)
		}
	})
}

func ExampleOf() {
	fmt.Println(Of(""))
	fmt.Println(Of("a"))
	// Output:
	// 2166136261
	// 3826002220
}

func ExampleKey() {
	fmt.Printf("%q\n", Key(api.Question{Name: "\x02ab\x00", Type: api.NS, Class: api.IN}))
	// Output: "\x02ab\x00\x00\x02\x00\x01"
}

func ExampleSpread() {
	q := api.Question{Name: "\x02ab\x00", Type: api.NS, Class: api.IN}
	other := api.Question{Name: "\x02ab\x00", Type: api.A, Class: api.IN}
	fmt.Println(Shard(q, 4), Shard(other, 4))
	fmt.Println(Spread([]api.Question{q, other, q}, 4))
	// Output:
	// 3 2
	// [0 0 1 2]
}
