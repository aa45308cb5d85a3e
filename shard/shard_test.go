package shard

import (
	"fmt"
	"math"
	"slices"
	"testing"

	"derrick/api"
)

const last = math.MaxUint64 // the last time that there is

// rooms and sizes that there may be.
var (
	rooms = []int{1, 2, 3, 7, 63, 64}
	sizes = []int{1, 2, 3, 64, 255, 256}
)

// neverRooms and neverSizes are those that there may not be. Some may be if only some of their bits are regarded, or if the sign is not.
var (
	neverRooms = append([]int{65, 66, 127, 128, 129, 192, 256}, never...)
	neverSizes = append([]int{258, 320, 511, 512, 65792}, never...)
	never      = []int{
		0, 257, 513, 65535, 65536, 65537, 1<<31 - 1, 1 << 31, 1<<31 + 1, 1<<32 - 1, 1 << 32, 1<<32 + 1, 1<<32 + 64, 1<<48 + 2,
		math.MaxInt - 1, math.MaxInt, -1, -2, -3, -64, -65, -255, -256, -65535, -1 << 31, 1 - 1<<32, 3 - 1<<32,
		math.MinInt, math.MinInt + 1, math.MinInt + 2, math.MinInt + 64,
	}
)

// times are edges of times, ascending.
var times = []uint64{0, 1, 2, 255, 256, 257, 1<<31 - 1, 1 << 31, 1<<32 - 1, 1 << 32, 1<<32 + 1, 1<<63 - 1, 1 << 63, 1<<63 + 1, last - 1, last}

func q(name string) api.Question {
	return api.Question{Name: "\x01" + name + "\x00", Type: api.A, Class: api.IN}
}

// qs are the questions of names, each of one letter.
func qs(names string) []api.Question {
	var l []api.Question
	for _, name := range names {
		l = append(l, q(string(name)))
	}
	return l
}

func e(name string, rank int, expire uint64) api.Entry {
	return api.Entry{Q: q(name), Rank: rank, Expire: expire}
}

// same reports whether two entries are equal.
func same(a, b api.Entry) bool {
	return a.Q == b.Q && slices.Equal(a.RRs, b.RRs) && a.Rcode == b.Rcode && a.Rank == b.Rank && a.Expire == b.Expire
}

// insert sees to it that an entry is stored, and that these entries are removed for it.
func insert(t *testing.T, s *Shard, e api.Entry, now uint64, gone string) {
	t.Helper()
	if got, err := s.Insert(e, now); err != api.OK || !slices.Equal(got, qs(gone)) {
		t.Errorf("Insert(%v, %d) = %v, %d, want %v, %d", e, now, got, err, qs(gone), api.OK)
	}
}

// refuse sees to it that an entry is not stored, and that nothing is removed.
func refuse(t *testing.T, s *Shard, e api.Entry, now uint64, want api.Errno) {
	t.Helper()
	before := s.Keys()
	if got, err := s.Insert(e, now); err != want || len(got) > 0 {
		t.Errorf("Insert(%v, %d) = %v, %d, want [], %d", e, now, got, err, want)
	}
	if after := s.Keys(); !slices.Equal(after, before) {
		t.Errorf("Insert(%v, %d) changed %v to %v", e, now, before, after)
	}
}

func lookup(t *testing.T, s *Shard, now uint64, want api.Entry) {
	t.Helper()
	if got, ok := s.Lookup(want.Q, now); !ok || !same(got, want) {
		t.Errorf("Lookup(%v, %d) = %v, %t, want %v", want.Q, now, got, ok, want)
	}
}

func miss(t *testing.T, s *Shard, q api.Question, now uint64) {
	t.Helper()
	if got, ok := s.Lookup(q, now); ok || got.RRs != nil || !same(got, api.Entry{}) {
		t.Errorf("Lookup(%v, %d) = %v, %t, want the zero entry", q, now, got, ok)
	}
}

func evict(t *testing.T, s *Shard, q api.Question, want bool) {
	t.Helper()
	if got := s.Evict(q); got != want {
		t.Errorf("Evict(%v) = %t", q, got)
	}
}

// advance sees to it that these entries are due, in that order.
func advance(t *testing.T, s *Shard, now uint64, gone string) {
	t.Helper()
	if got := s.Advance(now); !slices.Equal(got, qs(gone)) {
		t.Errorf("Advance(%d) = %v, want %v", now, got, qs(gone))
	}
}

// are sees to it that there is room for so many entries, and that these and no others are there, in that order.
func are(t *testing.T, s *Shard, room int, want []api.Question) {
	t.Helper()
	if got := s.Keys(); !slices.Equal(got, want) {
		t.Errorf("Keys() = %v, want %v", got, want)
	}
	if got := s.Len(); got != len(want) {
		t.Errorf("Len() = %d, want %d", got, len(want))
	}
	if got := s.Room(); got != room {
		t.Errorf("Room() = %d, want %d", got, room)
	}
}

// keys is are for the questions of names.
func keys(t *testing.T, s *Shard, room int, want string) {
	t.Helper()
	are(t, s, room, qs(want))
}

// victims sees to it that these entries make room for as many new ones, 0, 1 and so on, while nothing is due.
func victims(t *testing.T, s *Shard, want string) {
	t.Helper()
	for i, name := range want {
		insert(t, s, e(string(rune('0'+i)), 1, last), 0, string(name))
	}
}

// made returns a shard with these entries, which are inserted at 0.
func made(t *testing.T, room int, l ...api.Entry) *Shard {
	t.Helper()
	s := New(room, 5)
	if s == nil {
		t.Fatalf("New(%d, 5) = nil", room)
	}
	for _, e := range l {
		insert(t, s, e, 0, "")
	}
	return s
}

// filled returns a full shard with an entry of each name, in the slots from 0 on, which end in the order of their slots: the first one at 10, the next one at 20, and so on.
func filled(t *testing.T, names string) *Shard {
	t.Helper()
	s := made(t, len(names))
	for i, name := range names {
		insert(t, s, e(string(name), 3, uint64(10*i+10)), 0, "")
	}
	return s
}

// numbered returns a question of its own for each number.
func numbered(i int) api.Question {
	return api.Question{Name: string([]byte{2, byte(i >> 8), byte(i), 0}), Type: api.A, Class: api.IN}
}

func TestNew(t *testing.T) { // P12.1
	for room := 1; room <= 64; room++ {
		for _, size := range sizes {
			s := New(room, size)
			if s == nil {
				t.Fatalf("New(%d, %d) = nil", room, size)
			}
			keys(t, s, room, "")
			advance(t, s, last, "")
			evict(t, s, q("a"), false)
			miss(t, s, q("a"), 0)
			var all []api.Question
			for i := range room {
				if gone, err := s.Insert(api.Entry{Q: numbered(i), Expire: 5}, 0); len(gone) > 0 || err != api.OK {
					t.Fatalf("Insert of entry %d of %d returned %v, %d", i, room, gone, err)
				}
				all = append(all, numbered(i))
				are(t, s, room, all)
			}
			gone, err := s.Insert(e("a", 1, 5), 0)
			if !slices.Equal(gone, all[:1]) || err != api.OK {
				t.Errorf("Insert into a full shard with room for %d returned %v, %d", room, gone, err)
			}
			all[0] = q("a")
			are(t, s, room, all)
		}
	}
	for size := 1; size <= 256; size++ {
		keys(t, New(1, size), 1, "")
	}
}

func TestNewIfThereMayNotBeSuchAShard(t *testing.T) { // P12.1, P1
	for _, room := range neverRooms {
		for _, size := range append(sizes, neverSizes...) {
			if New(room, size) != nil {
				t.Errorf("New(%d, %d) is not nil", room, size)
			}
		}
	}
	for _, size := range neverSizes {
		for _, room := range rooms {
			if New(room, size) != nil {
				t.Errorf("New(%d, %d) is not nil", room, size)
			}
		}
	}
	for n := -1000; n <= 1000; n++ {
		if (New(n, 7) != nil) != (n >= 1 && n <= 64) {
			t.Errorf("New(%d, 7) is nil: %t", n, New(n, 7) == nil)
		}
		if (New(7, n) != nil) != (n >= 1 && n <= 256) {
			t.Errorf("New(7, %d) is nil: %t", n, New(7, n) == nil)
		}
	}
}

func TestNilShard(t *testing.T) { // P12.1, P12.2, P12.3, R1, P1
	for _, s := range []*Shard{nil, New(0, 1), New(65, 1), New(1, 0), New(1, 257), {}} {
		for _, expire := range times {
			for _, now := range times { // ErrArg also if the entry is not live
				refuse(t, s, e("a", 3, expire), now, api.ErrArg)
				refuse(t, s, api.Entry{Expire: expire}, now, api.ErrArg)
			}
		}
		for _, now := range times {
			miss(t, s, q("a"), now)
			miss(t, s, api.Question{}, now)
			advance(t, s, now, "")
		}
		evict(t, s, q("a"), false)
		evict(t, s, api.Question{}, false)
		keys(t, s, 0, "")
	}
}

func TestInsertOfAnEntryThatIsNotLive(t *testing.T) { // P12.2
	for _, now := range times {
		for _, expire := range times {
			s := made(t, 2)
			if expire > now {
				insert(t, s, e("a", 3, expire), now, "")
				keys(t, s, 2, "a")
				lookup(t, s, now, e("a", 3, expire))
				continue
			}
			refuse(t, s, e("a", 3, expire), now, api.ErrNone)
			keys(t, s, 2, "")
			advance(t, s, last, "") // nor is its time kept
		}
	}
	s := made(t, 1)
	refuse(t, s, e("a", 5, 6), 7, api.ErrNone)
	refuse(t, s, e("a", 5, 7), 7, api.ErrNone)
	insert(t, s, e("a", 5, 8), 7, "")
	refuse(t, s, e("a", 5, last), last, api.ErrNone) // nothing is live at the last time
	refuse(t, s, e("b", 5, 0), 0, api.ErrNone)
	lookup(t, s, 7, e("a", 5, 8))
}

func TestInsertOfALowerRank(t *testing.T) { // P12.2, P12.4
	s := made(t, 2, e("a", 3, 20), e("b", 5, 30))
	refuse(t, s, e("a", 2, 40), 0, api.ErrLow)
	refuse(t, s, e("a", 2, 40), 19, api.ErrLow)
	refuse(t, s, e("a", 0, 20), 19, api.ErrLow)
	refuse(t, s, e("a", math.MinInt, last), 19, api.ErrLow)
	lookup(t, s, 19, e("a", 3, 20))
	insert(t, s, e("a", 2, 40), 20, "") // it has ended
	lookup(t, s, 39, e("a", 2, 40))
	refuse(t, s, e("b", 4, 40), 29, api.ErrLow)
	lookup(t, s, 29, e("b", 5, 30))
	insert(t, s, e("b", 4, 40), 31, "")
	insert(t, s, e("c", 1, 50), 31, "a") // of another question, so it is no matter of rank
	keys(t, s, 2, "cb")
}

func TestInsertOfTheSameOrAHigherRank(t *testing.T) { // P12.2
	for _, rank := range []int{math.MinInt, -1, 0, 1, 2, 3, 4, 5, 6, 1 << 32, math.MaxInt} {
		for _, now := range []uint64{0, 19, 20, 21} {
			s := made(t, 2, e("a", rank, 20), e("b", 3, 30))
			insert(t, s, e("a", rank, 40), now, "")
			lookup(t, s, 39, e("a", rank, 40))
			if rank < math.MaxInt {
				insert(t, s, e("a", rank+1, 22), now, "")
				lookup(t, s, 21, e("a", rank+1, 22))
				miss(t, s, q("a"), 22)
				refuse(t, s, e("a", rank, 40), now, api.ErrLow)
			}
			lookup(t, s, 29, e("b", 3, 30))
			keys(t, s, 2, "ab")
		}
	}
}

func TestWhichErrorOfInsertComesFirst(t *testing.T) { // P12.2, R1
	s := filled(t, "ab")
	refuse(t, s, e("a", 2, 4), 5, api.ErrNone) // a lower rank, too
	refuse(t, s, e("a", 2, 5), 5, api.ErrNone)
	refuse(t, s, e("a", 2, 6), 5, api.ErrLow)
	refuse(t, s, e("a", 3, 5), 5, api.ErrNone)  // a rank that would do
	refuse(t, s, e("a", 2, 9), 10, api.ErrNone) // what is there is not live either
	refuse(t, s, e("c", 9, 5), 5, api.ErrNone)
	var none *Shard
	refuse(t, none, e("a", 2, 5), 5, api.ErrArg)
	lookup(t, s, 9, e("a", 3, 10))
	lookup(t, s, 19, e("b", 3, 20))
}

func TestWhatIsRefusedChangesNothing(t *testing.T) { // P12.2
	s := filled(t, "abc")
	refuse(t, s, e("c", 2, 40), 29, api.ErrLow)  // a and b are due, but room is not needed
	refuse(t, s, e("d", 5, 20), 29, api.ErrNone) // so, too
	keys(t, s, 3, "abc")
	for _, name := range []string{"a", "b", "c"} {
		refuse(t, s, e(name, 2, last), 5, api.ErrLow)
		refuse(t, s, e(name, 5, 5), 5, api.ErrNone)
	}
	refuse(t, s, e("d", 5, 5), 5, api.ErrNone)
	victims(t, s, "abc") // it has touched none, and the hand is where it was
	s = filled(t, "abc")
	refuse(t, s, e("a", 2, 5), 1, api.ErrLow)
	refuse(t, s, e("b", 2, last), 1, api.ErrLow)
	refuse(t, s, e("c", 9, 1), 1, api.ErrNone)
	advance(t, s, 9, "")
	advance(t, s, 30, "abc") // each at its own time
}

func TestInsertIntoTheLowestFreeSlot(t *testing.T) { // P12.2
	s := made(t, 5)
	insert(t, s, e("a", 3, 50), 0, "")
	keys(t, s, 5, "a")
	insert(t, s, e("b", 3, 40), 0, "")
	insert(t, s, e("c", 3, 30), 0, "")
	keys(t, s, 5, "abc")
	evict(t, s, q("a"), true)
	insert(t, s, e("d", 3, 20), 0, "") // and not behind c
	keys(t, s, 5, "dbc")
	insert(t, s, e("e", 3, 10), 0, "")
	insert(t, s, e("f", 3, 10), 0, "")
	keys(t, s, 5, "dbcef")
	evict(t, s, q("f"), true) // the lowest one, whichever was freed first or last
	evict(t, s, q("b"), true)
	evict(t, s, q("e"), true)
	keys(t, s, 5, "dc")
	insert(t, s, e("g", 3, 60), 0, "")
	keys(t, s, 5, "dgc")
	insert(t, s, e("h", 3, 60), 0, "")
	insert(t, s, e("i", 3, 60), 0, "")
	keys(t, s, 5, "dgchi")
	advance(t, s, 30, "dc")
	insert(t, s, e("j", 3, 60), 30, "")
	keys(t, s, 5, "jghi")
	insert(t, s, e("k", 3, 60), 30, "")
	keys(t, s, 5, "jgkhi")
	victims(t, s, "jgk") // the victims' slots, in turn
	keys(t, s, 5, "012hi")
	evict(t, s, q("0"), true) // below the hand
	insert(t, s, e("l", 3, 60), 30, "")
	keys(t, s, 5, "l12hi")
}

func TestInsertIntoAShardThatIsNotFullRemovesNothing(t *testing.T) { // P12.2, P12.4
	for _, now := range times {
		if now == last {
			continue // nothing can be inserted then
		}
		s := made(t, 4, e("a", 3, 1), e("b", 3, 2))
		insert(t, s, e("c", 3, last), now, "")
		keys(t, s, 4, "abc")
		insert(t, s, e("d", 3, last), now, "")
		keys(t, s, 4, "abcd")
		insert(t, s, e("a", 3, last), now, "") // full, but no room is needed
		keys(t, s, 4, "abcd")
		evict(t, s, q("d"), true)
		insert(t, s, e("e", 3, last), now, "") // not full any more
		keys(t, s, 4, "abce")
	}
}

func TestAReplacedEntryStaysInItsSlot(t *testing.T) { // P12.2
	for k, name := range "abcd" {
		for _, now := range []uint64{0, 9, 10, 39, 40, 100} { // also once it is not live, and if others are not
			s := filled(t, "abcd")
			insert(t, s, e(string(name), 3, 200), now, "")
			keys(t, s, 4, "abcd")
			lookup(t, s, 199, e(string(name), 3, 200))
			evict(t, s, q(string("abcd"[(k+1)%4])), true) // a lower slot that is free is not used
			insert(t, s, e(string(name), 4, 300), now, "")
			lookup(t, s, 299, e(string(name), 4, 300))
			if s.Len() != 3 {
				t.Errorf("Len() = %d", s.Len())
			}
		}
	}
	s := made(t, 3, e("a", 3, 9), e("b", 3, 9))
	evict(t, s, q("a"), true)
	insert(t, s, e("b", 3, 8), 1, "")
	insert(t, s, e("c", 3, 9), 1, "") // so b is in slot 1 still
	keys(t, s, 3, "cb")
}

func TestTheSlotOfAReplacedEntryBecomesTouched(t *testing.T) { // P12.2
	s := filled(t, "abc")
	insert(t, s, e("a", 3, 99), 5, "")
	victims(t, s, "bca")

	s = filled(t, "abc")
	insert(t, s, e("a", 4, 99), 50, "") // its own was not live
	insert(t, s, e("b", 1, 99), 50, "")
	victims(t, s, "cab")

	s = made(t, 3, e("a", 3, 9))
	insert(t, s, e("a", 3, 9), 0, "") // the very same
	insert(t, s, e("b", 3, 9), 0, "")
	insert(t, s, e("c", 3, 9), 0, "")
	victims(t, s, "bca")

	s = filled(t, "a")
	insert(t, s, e("a", 3, 9), 0, "")
	insert(t, s, e("a", 3, 9), 0, "")
	victims(t, s, "a") // if all are touched, they are chosen in turn
}

func TestANewEntryIsUntouched(t *testing.T) { // P12.2
	s := filled(t, "abc")
	victims(t, s, "abc")

	s = made(t, 3, e("a", 3, 9), e("b", 3, 9), e("c", 3, 9))
	lookup(t, s, 0, e("a", 3, 9))
	lookup(t, s, 0, e("b", 3, 9))
	evict(t, s, q("a"), true)
	insert(t, s, e("d", 3, 9), 0, "") // in a slot that was touched
	victims(t, s, "dc0b")             // slot 0 is untouched, too, when the hand comes round

	s = made(t, 2, e("a", 3, 9), e("b", 3, 20))
	lookup(t, s, 0, e("a", 3, 9))
	advance(t, s, 9, "a")
	insert(t, s, e("a", 3, 20), 9, "") // the same question in the same slot
	victims(t, s, "ab")

	s = made(t, 2, e("a", 3, 9), e("b", 3, 20))
	lookup(t, s, 0, e("a", 3, 9))
	insert(t, s, e("c", 3, 20), 9, "a")
	victims(t, s, "cb")
}

func TestTheTimeOfAReplacedEntryIsItsNewOne(t *testing.T) { // P12.2, P12.4
	for _, from := range times[1:] {
		for _, to := range times[1:] {
			s := made(t, 2, e("a", 3, from))
			insert(t, s, e("a", 3, to), 0, "")
			advance(t, s, to-1, "") // not at the time at which the first one would have been
			lookup(t, s, to-1, e("a", 3, to))
			miss(t, s, q("a"), to)
			advance(t, s, to, "a")
			advance(t, s, last, "") // nor a second time
			keys(t, s, 2, "")
		}
	}
}

func TestRoomIsMadeByTheOneThatIsDue(t *testing.T) { // P12.2, P12.4
	for k, name := range "abcd" {
		s := made(t, 4)
		for i, other := range "abcd" {
			insert(t, s, e(string(other), 5, uint64(50+(i+4-k)%4*10)), 0, "") // so the one at k ends first
		}
		lookup(t, s, 0, e(string(name), 5, 50)) // touched or not
		insert(t, s, e("z", 1, 90), 50, string(name))
		want := []byte("abcd")
		want[k] = 'z'
		keys(t, s, 4, string(want))
		miss(t, s, q(string(name)), 0)
		insert(t, s, e("y", 1, 90), 59, string(want[0])) // nothing else is due, and the hand is at slot 0 still
		lookup(t, s, 89, e("y", 1, 90))
	}
}

func TestRoomIsMadeByAllThatAreDue(t *testing.T) { // P12.2, P12.4
	s := made(t, 5, e("a", 3, 30), e("b", 3, 10), e("c", 3, 40), e("d", 3, 20), e("e", 3, 41))
	insert(t, s, e("f", 3, 90), 40, "bdac") // at different times
	keys(t, s, 5, "fe")
	insert(t, s, e("g", 3, 90), 41, "") // e is due, but there is room
	keys(t, s, 5, "fge")
	lookup(t, s, 40, e("e", 3, 41))

	s = made(t, 5, e("e", 3, 40), e("d", 3, 50), e("c", 3, 40), e("b", 3, 40), e("a", 3, 51))
	insert(t, s, e("f", 3, 90), 40, "ecb") // at the same time: as their slots are, and not their names
	keys(t, s, 5, "fda")
	insert(t, s, e("g", 3, 90), 45, "")
	insert(t, s, e("h", 3, 90), 45, "")
	keys(t, s, 5, "fdgha")

	s = made(t, 5, e("a", 3, 40), e("b", 3, 10), e("c", 3, 40), e("d", 3, 10), e("e", 3, 40))
	insert(t, s, e("f", 3, 90), 40, "bdace") // all of them
	keys(t, s, 5, "f")

	s = made(t, 3, e("a", 3, 3), e("b", 3, 2), e("c", 3, last))
	insert(t, s, e("d", 3, last), last-1, "ba") // whose ends have been for long
	keys(t, s, 3, "dc")
}

func TestRoomIsMadeByTheVictimIfNoneIsDue(t *testing.T) { // P12.2, P12.4
	s := filled(t, "abcd")
	insert(t, s, e("e", 1, 90), 9, "a") // less credible than all that are there, which is no matter
	keys(t, s, 4, "ebcd")
	lookup(t, s, 9, e("b", 3, 20))
	insert(t, s, e("f", 1, 90), 10, "c") // b is spared, and the hand behind c
	keys(t, s, 4, "ebfd")
	insert(t, s, e("g", 1, 90), 19, "d")
	insert(t, s, e("h", 1, 90), 19, "e")
	insert(t, s, e("i", 1, 90), 20, "b") // now by being due
	keys(t, s, 4, "hifg")
	insert(t, s, e("j", 1, 90), 20, "i") // the hand is where it was
	keys(t, s, 4, "hjfg")
	advance(t, s, 89, "") // nothing is left of the times of those that are gone
	advance(t, s, 90, "hjfg")
}

func TestTheVictimAtTheLeastAndTheGreatestTime(t *testing.T) { // P12.2
	s := made(t, 2, e("a", 3, 1), e("b", 3, last))
	insert(t, s, e("c", 3, 1), 0, "a")
	insert(t, s, e("d", 3, last), 0, "b")
	insert(t, s, e("e", 3, last), last-1, "c") // due
	insert(t, s, e("f", 3, last), last-1, "e")
	insert(t, s, e("g", 3, last), last-1, "d")
	keys(t, s, 2, "fg")
	refuse(t, s, e("h", 3, last), last, api.ErrNone) // due are all, but nothing is removed
	advance(t, s, last, "fg")
}

func TestAVictimMayComeAgain(t *testing.T) { // P12.2
	s := filled(t, "ab")
	insert(t, s, e("c", 3, 30), 0, "a")
	insert(t, s, e("a", 1, 5), 0, "b") // a lower rank than it had: nothing is left of that
	insert(t, s, e("b", 1, 40), 0, "c")
	keys(t, s, 2, "ba")
	lookup(t, s, 4, e("a", 1, 5))
	advance(t, s, 20, "a")
	advance(t, s, 40, "b")
}

func TestTheExample(t *testing.T) { // P12.2
	s := New(1, 7)
	insert(t, s, e("a", 5, 10), 1, "")
	insert(t, s, e("b", 1, 10), 1, "a")
	keys(t, s, 1, "b")
	miss(t, s, q("a"), 1)
	lookup(t, s, 1, e("b", 1, 10))
}

func TestRoomForOneEntry(t *testing.T) { // P12.2, P12.3, P12.4
	s := New(1, 1)
	insert(t, s, e("a", 3, 5), 0, "")
	lookup(t, s, 0, e("a", 3, 5))
	insert(t, s, e("b", 3, 6), 0, "a") // touched, but there is no other
	insert(t, s, e("b", 3, 7), 0, "")
	insert(t, s, e("c", 3, 8), 7, "b") // due
	evict(t, s, q("b"), false)
	evict(t, s, q("c"), true)
	keys(t, s, 1, "")
	insert(t, s, e("a", 3, 9), 0, "")
	advance(t, s, 8, "")
	advance(t, s, 9, "a")
	keys(t, s, 1, "")
}

func TestLookup(t *testing.T) { // P12.3
	s := made(t, 3, e("a", 3, 10), e("b", 2, 20))
	lookup(t, s, 0, e("a", 3, 10))
	lookup(t, s, 9, e("a", 3, 10))
	miss(t, s, q("a"), 10) // it ends at now
	miss(t, s, q("a"), 11) // and before
	miss(t, s, q("a"), last)
	lookup(t, s, 9, e("a", 3, 10)) // it is there still
	lookup(t, s, 19, e("b", 2, 20))
	miss(t, s, q("b"), 20)
	miss(t, s, q("c"), 0)
	miss(t, s, api.Question{}, 0)
	keys(t, s, 3, "ab")
	advance(t, s, 20, "ab") // a Lookup removes nothing
	miss(t, s, q("a"), 0)
	for _, expire := range times {
		for _, now := range times {
			if expire == 0 {
				continue // such an entry can't be there
			}
			s := made(t, 1, e("a", 3, expire))
			if now < expire {
				lookup(t, s, now, e("a", 3, expire))
			} else {
				miss(t, s, q("a"), now)
			}
		}
	}
}

func TestLookupSparesWhatItFinds(t *testing.T) { // P12.3
	s := filled(t, "abc")
	lookup(t, s, 9, e("a", 3, 10))
	lookup(t, s, 9, e("a", 3, 10)) // twice is as good as once
	victims(t, s, "bca")

	s = filled(t, "abc")
	lookup(t, s, 0, e("b", 3, 20))
	victims(t, s, "ac0b")

	s = filled(t, "abc")
	for _, want := range []api.Entry{e("a", 3, 10), e("b", 3, 20), e("c", 3, 30)} {
		lookup(t, s, 0, want)
	}
	victims(t, s, "abc") // if all are, none is
}

func TestLookupThatFindsNothingSparesNothing(t *testing.T) { // P12.3
	s := filled(t, "abc")
	miss(t, s, q("a"), 10)
	miss(t, s, q("a"), 11)
	miss(t, s, q("b"), last)
	miss(t, s, q("d"), 0)
	victims(t, s, "abc")

	s = filled(t, "abc")
	evict(t, s, q("a"), true)
	miss(t, s, q("a"), 0)
	insert(t, s, e("a", 3, 10), 0, "")
	victims(t, s, "abc")
}

func TestLookupTakesRankForNothing(t *testing.T) { // P12.3
	for _, rank := range []int{math.MinInt, -1, 0, 1, 5, 6, math.MaxInt} {
		s := made(t, 1, e("a", rank, 10))
		lookup(t, s, 9, e("a", rank, 10))
		miss(t, s, q("a"), 10)
	}
}

func TestEvict(t *testing.T) { // P12.3
	s := filled(t, "abc")
	evict(t, s, q("d"), false)
	evict(t, s, api.Question{}, false)
	keys(t, s, 3, "abc")
	evict(t, s, q("b"), true)
	keys(t, s, 3, "ac")
	evict(t, s, q("b"), false) // the same one twice
	keys(t, s, 3, "ac")
	miss(t, s, q("b"), 0)
	lookup(t, s, 0, e("a", 3, 10))
	lookup(t, s, 0, e("c", 3, 30))
	advance(t, s, 20, "a") // its time is gone with it
	evict(t, s, q("a"), false)
	evict(t, s, q("c"), true)
	keys(t, s, 3, "")
	evict(t, s, q("c"), false)
	insert(t, s, e("c", 1, 40), 0, "") // of a lower rank than the one that is gone
	keys(t, s, 3, "c")
	advance(t, s, 39, "")
	evict(t, s, q("c"), true)
	advance(t, s, last, "")
}

func TestEvictOfWhatIsNotLive(t *testing.T) { // P12.3
	s := filled(t, "ab")
	miss(t, s, q("a"), 10)
	evict(t, s, q("a"), true) // there is one, live or not
	evict(t, s, q("a"), false)
	keys(t, s, 2, "b")
}

func TestEvictOfEachEntry(t *testing.T) { // P12.3
	for _, room := range rooms {
		for k := range room {
			s := made(t, room)
			var rest []api.Question
			for i := range room {
				s.Insert(api.Entry{Q: numbered(i), Expire: 9}, 0)
				if i != k {
					rest = append(rest, numbered(i))
				}
			}
			evict(t, s, numbered(k), true)
			are(t, s, room, rest)
			evict(t, s, numbered(k), false)
			if got := s.Advance(9); !slices.Equal(got, rest) {
				t.Errorf("Advance(9) = %v, want %v", got, rest)
			}
			keys(t, s, room, "")
		}
	}
}

func TestEvictLeavesTheHandAndTheOthers(t *testing.T) { // P12.3
	s := filled(t, "abcd")
	victims(t, s, "ab")
	lookup(t, s, 0, e("d", 3, 40))
	evict(t, s, q("c"), true) // the one to which the hand points
	insert(t, s, e("e", 3, 50), 0, "")
	keys(t, s, 4, "01ed")
	insert(t, s, e("f", 3, 50), 0, "e")
	insert(t, s, e("g", 3, 50), 0, "0") // d is touched still
	insert(t, s, e("h", 3, 50), 0, "1")
	insert(t, s, e("i", 3, 50), 0, "f")
	insert(t, s, e("j", 3, 50), 0, "d")
}

func TestAdvance(t *testing.T) { // P12.3
	for now := uint64(0); now <= 30; now++ {
		s := made(t, 5, e("a", 3, 22), e("b", 3, 20), e("c", 3, 21), e("d", 3, 20))
		switch {
		case now < 20:
			advance(t, s, now, "")
			keys(t, s, 5, "abcd")
		case now == 20:
			advance(t, s, now, "bd")
			keys(t, s, 5, "ac")
		case now == 21:
			advance(t, s, now, "bdc")
			keys(t, s, 5, "a")
		default:
			advance(t, s, now, "bdca")
			keys(t, s, 5, "")
		}
		advance(t, s, now, "") // the same time again
		advance(t, s, 0, "")
		miss(t, s, q("e"), now)
	}
}

func TestAdvanceToTheLeastAndTheGreatestTime(t *testing.T) { // P12.3
	s := made(t, 4, e("a", 3, last), e("b", 3, 1), e("c", 3, last-1), e("d", 3, 1<<63))
	advance(t, s, 0, "")
	keys(t, s, 4, "abcd")
	advance(t, s, 1, "b")
	advance(t, s, 1<<63-1, "")
	advance(t, s, 1<<63, "d")
	advance(t, s, last-1, "c")
	advance(t, s, last-1, "")
	keys(t, s, 4, "a")
	advance(t, s, last, "a")
	keys(t, s, 4, "")
	advance(t, s, last, "")

	s = made(t, 4, e("a", 3, last), e("b", 3, 1), e("c", 3, last-1), e("d", 3, 1<<63))
	advance(t, s, last, "bdca")
	keys(t, s, 4, "")
}

func TestAdvanceToATimeBeforeAnEarlierOne(t *testing.T) { // P12.3
	s := made(t, 4, e("a", 3, 50), e("b", 3, 500), e("c", 3, 1000))
	advance(t, s, 600, "ab")
	advance(t, s, 100, "")
	keys(t, s, 4, "c")
	insert(t, s, e("d", 3, 60), 10, "") // at a time that has been
	insert(t, s, e("a", 3, 300), 10, "")
	lookup(t, s, 59, e("d", 3, 60))
	advance(t, s, 59, "")
	advance(t, s, 60, "d")
	advance(t, s, 0, "")
	keys(t, s, 4, "ac")
	advance(t, s, 1000, "ac")
}

func TestAdvanceIsOrderedByTimesAndThenBySlots(t *testing.T) { // P12.3
	s := made(t, 6, e("f", 1, 30), e("e", 2, 10), e("d", 3, 30), e("c", 4, 20), e("b", 5, 10), e("a", 6, 20))
	evict(t, s, q("d"), true)
	insert(t, s, e("z", 1, 10), 0, "")
	keys(t, s, 6, "fezcba")
	advance(t, s, 30, "ezbcaf")
	keys(t, s, 6, "")

	for _, room := range rooms {
		for step := range 8 { // in orders of times that are not the order of slots
			s := New(room, 7)
			want := make([]api.Question, 0, room)
			for i := range room {
				s.Insert(api.Entry{Q: numbered(room - i), Expire: uint64(1 + i*step%7)}, 0)
			}
			for at := range 8 {
				for i := range room {
					if i*step%7 == at {
						want = append(want, numbered(room-i))
					}
				}
			}
			if got := s.Advance(7); !slices.Equal(got, want) {
				t.Errorf("Advance(7) = %v, want %v", got, want)
			}
		}
	}
}

func TestAdvanceSparesNothingAndMovesNoHand(t *testing.T) { // P12.3
	s := filled(t, "abcd")
	victims(t, s, "a")
	lookup(t, s, 0, e("c", 3, 30))
	advance(t, s, 19, "")
	advance(t, s, 20, "b") // the one to which the hand points
	insert(t, s, e("e", 3, 90), 20, "")
	keys(t, s, 4, "0ecd")
	insert(t, s, e("f", 3, 90), 20, "e")
	insert(t, s, e("g", 3, 90), 20, "d") // c is touched still
	insert(t, s, e("h", 3, 90), 20, "0")
	insert(t, s, e("i", 3, 90), 20, "f")
	insert(t, s, e("j", 3, 90), 20, "c")
}

func TestKeysChangeNothing(t *testing.T) { // P12.1
	s := filled(t, "abc")
	for range 3 {
		keys(t, s, 3, "abc")
	}
	evict(t, s, q("b"), true)
	for range 3 {
		keys(t, s, 3, "ac")
	}
	insert(t, s, e("b", 3, 20), 0, "")
	keys(t, s, 3, "abc")
	victims(t, s, "abc")
}

// kinds are entries of different questions that differ in all parts. Some of them are not valid.
func kinds() []api.Entry {
	ab := "\x02ab\x00"
	address := api.RR{Name: ab, Type: api.A, Class: api.IN, TTL: 5, Data: "\x01\x02\x03\x04"}
	return []api.Entry{
		{Q: api.Question{Name: ab, Type: api.A, Class: api.IN}, RRs: []api.RR{address}, Rank: 3},
		{Q: api.Question{Name: ab, Type: api.NS, Class: api.IN}, RRs: []api.RR{address, {Name: "other", TTL: math.MaxUint32}}, Rank: 5},
		{Q: api.Question{Name: ab, Type: api.A, Class: 2}, RRs: []api.RR{}, Rcode: api.NXDomain, Rank: 1},
		{Q: api.Question{Name: ab, Type: api.A + 256, Class: api.IN}, Rcode: math.MinInt, Rank: math.MaxInt},
		{Q: api.Question{Name: ab, Type: api.A, Class: api.IN + 256}, Rcode: math.MaxInt, Rank: math.MinInt},
		{Q: api.Question{Name: "\x02AB\x00", Type: api.A, Class: api.IN}, RRs: []api.RR{{}, {}, {}}},
		{Q: api.Question{Name: "\x02ab", Type: api.A, Class: api.IN}, Rank: -1},
		{Q: api.Question{Name: "\x02ab\x00\x00", Type: api.A, Class: api.IN}, Rank: -1},
		{Q: api.Question{Name: "ab", Type: api.A, Class: api.IN}},
		{Q: api.Question{}},
		{Q: api.Question{Name: "\xff\xfe"}, RRs: []api.RR{address}},
		{Q: api.Question{Type: 65535, Class: 65535}},
		{Q: api.Question{Name: string(make([]byte, 1000))}, RRs: make([]api.RR, 500)},
	}
}

func TestQuestionsThatDifferInAnyPart(t *testing.T) { // P12.1, P12.2, P12.3, R5
	all := kinds()
	s := made(t, len(all))
	var want []api.Question
	for i, x := range all {
		miss(t, s, x.Q, 0)
		evict(t, s, x.Q, false)
		x.Expire = uint64(10 + i)
		all[i] = x
		insert(t, s, x, 0, "")
		want = append(want, x.Q)
		are(t, s, len(all), want)
		for _, other := range all[:i+1] {
			lookup(t, s, 9, other)
		}
	}
	for i, x := range all { // each in place of its own, and of no other
		x.RRs, x.Rcode, x.Expire = []api.RR{{Name: "new"}}, i, uint64(100+i)
		insert(t, s, x, 0, "")
		all[i] = x
		for _, other := range all {
			lookup(t, s, 9, other)
		}
	}
	are(t, s, len(all), want)
	if got := s.Advance(99 + uint64(len(all)) - 1); !slices.Equal(got, want[:len(all)-1]) {
		t.Errorf("Advance returned %v", got)
	}
	evict(t, s, want[len(all)-1], true)
	keys(t, s, len(all), "")
}

func TestTheArgumentIsLeftAndNotKept(t *testing.T) { // R3
	address := api.RR{Name: "\x02ab\x00", Type: api.A, Class: api.IN, TTL: 5, Data: "\x01\x02\x03\x04"}
	records := []api.RR{address, {Name: "\x01a\x00"}}
	x := api.Entry{Q: q("a"), RRs: records, Rank: 3, Expire: 9}
	want := x
	want.RRs = slices.Clone(records)

	s := made(t, 1, x) // stored anew
	if !same(x, want) {
		t.Errorf("Insert changed the entry to %v", x)
	}
	records[0].TTL = 6
	records[1].Name = "other"
	lookup(t, s, 0, want)

	records[0], records[1] = want.RRs[0], want.RRs[1]
	insert(t, s, x, 0, "") // in place of another
	if !same(x, want) {
		t.Errorf("Insert changed the entry to %v", x)
	}
	records[0].TTL = 6
	lookup(t, s, 0, want)

	x.RRs = records[:1]
	insert(t, s, x, 0, "")
	got, _ := s.Lookup(q("a"), 0)
	_ = append(got.RRs, api.RR{Name: "more"})
	if records[1].Name != "\x01a\x00" {
		t.Errorf("the records changed to %v", records)
	}
}

func TestTheResultsAreNotKept(t *testing.T) { // R3
	want := api.Entry{Q: q("a"), RRs: []api.RR{{Name: "\x01a\x00", TTL: 5}, {Name: "\x01b\x00"}}, Rank: 3, Expire: 9}
	s := made(t, 2, want)
	first, _ := s.Lookup(q("a"), 0)
	second, _ := s.Lookup(q("a"), 0)
	first.RRs[0].TTL = 6
	_ = append(first.RRs[:1], api.RR{Name: "other"})
	if !same(second, want) {
		t.Errorf("what Lookup returned changed to %v", second)
	}
	lookup(t, s, 0, want)

	insert(t, s, api.Entry{Q: q("a"), RRs: []api.RR{{Name: "new"}, {Name: "newer"}}, Rank: 3, Expire: 9}, 0, "")
	evict(t, s, q("a"), true)
	insert(t, s, e("b", 3, 9), 0, "")
	if !same(second, want) {
		t.Errorf("what Lookup returned changed to %v", second)
	}

	insert(t, s, e("c", 3, 9), 0, "")
	all := s.Keys()
	for i := range all {
		all[i] = q("z")
	}
	_ = append(all[:0], q("y"), q("y"))
	keys(t, s, 2, "bc")
	gone, _ := s.Insert(e("d", 3, 20), 9)
	advanced := s.Advance(20)
	for i := range gone {
		gone[i] = q("z")
	}
	_ = append(gone[:0], q("y"), q("y"))
	if !slices.Equal(advanced, qs("d")) {
		t.Errorf("what Advance returned changed to %v", advanced)
	}
	keys(t, s, 2, "")
}

func TestShardsAreNotShared(t *testing.T) { // R3, R4
	a, b := filled(t, "abc"), filled(t, "abc")
	lookup(t, a, 0, e("a", 3, 10))
	insert(t, a, e("a", 4, 90), 0, "")
	evict(t, a, q("b"), true)
	advance(t, a, 30, "c")
	keys(t, a, 3, "a")
	keys(t, b, 3, "abc")
	lookup(t, b, 9, e("a", 3, 10))
	b = filled(t, "abc")
	insert(t, a, e("d", 3, 90), 0, "")
	insert(t, a, e("e", 3, 90), 0, "")
	insert(t, a, e("f", 3, 90), 0, "d")
	victims(t, b, "abc")
}

// place is a slot as the chapter says: with an entry if it is used, and touched or not.
type place struct {
	e             api.Entry
	used, touched bool
}

// plain is what the chapters say of a shard. It has neither a map nor a wheel: it goes through all of its slots.
type plain struct {
	places []place
	hand   int
}

// at returns the slot of a question, or -1.
func (p *plain) at(q api.Question) int {
	return slices.IndexFunc(p.places, func(x place) bool { return x.used && x.e.Q == q })
}

// drop frees a slot and returns the question that was there.
func (p *plain) drop(i int) api.Question {
	q := p.places[i].e.Q
	p.places[i] = place{}
	return q
}

// advance removes, again and again, the first of those that end first.
func (p *plain) advance(now uint64) []api.Question {
	var gone []api.Question
	for {
		first := -1
		for i, x := range p.places {
			if x.used && x.e.Expire <= now && (first < 0 || x.e.Expire < p.places[first].e.Expire) {
				first = i
			}
		}
		if first < 0 {
			return gone
		}
		gone = append(gone, p.drop(first))
	}
}

// victim returns the slot to be reused. All of them are used.
func (p *plain) victim() int {
	for {
		i := p.hand
		p.hand = (i + 1) % len(p.places)
		if !p.places[i].touched {
			return i
		}
		p.places[i].touched = false
	}
}

func (p *plain) insert(e api.Entry, now uint64) ([]api.Question, api.Errno) {
	if e.Expire <= now {
		return nil, api.ErrNone
	}
	if i := p.at(e.Q); i >= 0 {
		if old := p.places[i].e; old.Expire > now && old.Rank > e.Rank {
			return nil, api.ErrLow
		}
		p.places[i] = place{e: e, used: true, touched: true}
		return nil, api.OK
	}
	free := func(x place) bool { return !x.used }
	var gone []api.Question
	if !slices.ContainsFunc(p.places, free) {
		if gone = p.advance(now); len(gone) == 0 {
			gone = append(gone, p.drop(p.victim()))
		}
	}
	p.places[slices.IndexFunc(p.places, free)] = place{e: e, used: true}
	return gone, api.OK
}

func (p *plain) lookup(q api.Question, now uint64) (api.Entry, bool) {
	i := p.at(q)
	if i < 0 || p.places[i].e.Expire <= now {
		return api.Entry{}, false
	}
	p.places[i].touched = true
	return p.places[i].e, true
}

func (p *plain) evict(q api.Question) bool {
	i := p.at(q)
	if i >= 0 {
		p.drop(i)
	}
	return i >= 0
}

func (p *plain) keys() []api.Question {
	var l []api.Question
	for _, x := range p.places {
		if x.used {
			l = append(l, x.e.Q)
		}
	}
	return l
}

// state is all that what is to come hangs on.
func (p *plain) state() string {
	return fmt.Sprint(p.places, p.hand)
}

// deed is a call: of Insert, Lookup, Evict or Advance, by its first letter.
type deed struct {
	call byte
	e    api.Entry
	now  uint64
}

// told is what a call returns.
type told struct {
	e    api.Entry
	is   bool
	err  api.Errno
	gone []api.Question
}

func (p *plain) do(d deed) told {
	var r told
	switch d.call {
	case 'I':
		r.gone, r.err = p.insert(d.e, d.now)
	case 'L':
		r.e, r.is = p.lookup(d.e.Q, d.now)
	case 'E':
		r.is = p.evict(d.e.Q)
	default:
		r.gone = p.advance(d.now)
	}
	return r
}

func do(s *Shard, d deed) told {
	var r told
	switch d.call {
	case 'I':
		r.gone, r.err = s.Insert(d.e, d.now)
	case 'L':
		r.e, r.is = s.Lookup(d.e.Q, d.now)
	case 'E':
		r.is = s.Evict(d.e.Q)
	default:
		r.gone = s.Advance(d.now)
	}
	return r
}

// pair has a shard and what the chapters say of it.
type pair struct {
	s *Shard
	p *plain
}

func newPair(room, size int) pair {
	return pair{New(room, size), &plain{places: make([]place, room)}}
}

// do sees to it that a call returns what the chapters say, and that the keys behind it are what they say.
func (b pair) do(t *testing.T, d deed) {
	t.Helper()
	before := b.p.state()
	got, want := do(b.s, d), b.p.do(d)
	if !same(got.e, want.e) || got.is != want.is || got.err != want.err || !slices.Equal(got.gone, want.gone) {
		t.Fatalf("%c %v %d returned %v, want %v; the state was %s", d.call, d.e, d.now, got, want, before)
	}
	if keys := b.s.Keys(); !slices.Equal(keys, b.p.keys()) {
		t.Fatalf("Keys() = %v behind %c %v %d; the state was %s", keys, d.call, d.e, d.now, before)
	}
}

// few are calls with one question more than there is room for, two ranks, and two times at which entries end.
func few(room int) []deed {
	var l []deed
	for _, now := range []uint64{0, 2, 4} {
		l = append(l, deed{call: 'A', now: now})
	}
	for k := range room + 1 {
		name := string("abcd"[k])
		l = append(l, deed{call: 'E', e: e(name, 0, 0)})
		for _, now := range []uint64{0, 2, 4} {
			l = append(l, deed{'L', e(name, 0, 0), now})
			for _, rank := range []int{1, 2} {
				for _, expire := range []uint64{2, 4} {
					l = append(l, deed{'I', e(name, rank, expire), now})
				}
			}
		}
	}
	return l
}

// paths has for each state that these calls lead to the calls that lead to it.
func paths(room int, calls []deed) [][]deed {
	all := [][]deed{nil}
	seen := map[string]bool{}
	seen[newPair(room, 1).p.state()] = true
	for n := 0; n < len(all); n++ {
		for _, d := range calls {
			path := append(slices.Clone(all[n]), d)
			p := newPair(room, 1).p
			for _, d := range path {
				p.do(d)
			}
			if !seen[p.state()] {
				seen[p.state()] = true
				all = append(all, path)
			}
		}
	}
	return all
}

// probes are calls that tell apart states of so much room: where the hand is and what is touched, and when each entry ends.
func probes(room int) [][]deed {
	var clock, timer []deed
	for i := range room + 1 {
		clock = append(clock, deed{'I', e(string("wxyz"[i]), 1, 9), 0})
	}
	for now := range uint64(6) {
		timer = append(timer, deed{call: 'A', now: now})
	}
	return [][]deed{clock, timer}
}

func TestEveryStateOfALittleRoom(t *testing.T) { // P12.2, P12.3
	for room := 1; room <= 2; room++ {
		calls := few(room)
		for _, path := range paths(room, calls) {
			for _, d := range calls {
				for _, probe := range probes(room) {
					b := newPair(room, 2)
					for _, d := range path {
						b.do(t, d)
					}
					b.do(t, d)
					for _, d := range probe {
						b.do(t, d)
					}
				}
			}
		}
	}
}

// mixed returns a row of calls, the same one for the same numbers. The times go on, but for a few that lie before.
func mixed(many, questions int, state uint64) []deed {
	var l []deed
	now := uint64(0)
	next := func(n int) int {
		state = state*6364136223846793005 + 1442695040888963407
		return int(state >> 33 % uint64(n))
	}
	for range many {
		now += uint64(next(3) / 2)
		d := deed{call: "IIIIIILLLEA"[next(11)], now: now}
		if next(9) == 0 {
			d.now -= min(now, uint64(next(9)))
		}
		d.e = api.Entry{Q: numbered(next(questions)), Rcode: next(3), Rank: 1 + next(5), Expire: d.now + uint64(next(10+4*questions))}
		if next(2) == 0 {
			d.e.RRs = []api.RR{{Name: d.e.Q.Name, TTL: uint32(next(9))}}
		}
		switch next(50) {
		case 0:
			d.e.Expire = last
		case 1:
			d.e.Expire = d.now
		}
		if d.call == 'A' && next(3) > 0 {
			d.now -= min(now, 5) // so that something is left to be due when room is made
		}
		l = append(l, d)
	}
	return l
}

// ledger has what is known of the entries of a shard from what its calls have returned, to hold P12.4 against.
type ledger struct {
	room    int
	entries []api.Entry
}

func (l *ledger) find(q api.Question) int {
	return slices.IndexFunc(l.entries, func(e api.Entry) bool { return e.Q == q })
}

// strike removes an entry, and reports whether there was one.
func (l *ledger) strike(q api.Question) bool {
	i := l.find(q)
	if i < 0 {
		return false
	}
	l.entries = slices.Delete(l.entries, i, i+1)
	return true
}

// due returns how many entries are due.
func (l *ledger) due(now uint64) int {
	n := 0
	for _, e := range l.entries {
		if e.Expire <= now {
			n++
		}
	}
	return n
}

// leave sees to it that the entries that are gone may be: as many as are due, or, if none is, as many as may go instead.
func (l *ledger) leave(t *testing.T, gone []api.Question, now uint64, instead int) {
	t.Helper()
	due := l.due(now)
	many := due
	if due == 0 {
		many = instead
	}
	if len(gone) != many {
		t.Fatalf("%v are gone at %d, while %d are due", gone, now, due)
	}
	for _, q := range gone {
		if i := l.find(q); i < 0 || due > 0 && l.entries[i].Expire > now {
			t.Fatalf("%v is gone at %d", q, now)
		}
		l.strike(q)
	}
}

// inserted sees to it that what an Insert returned may be.
func (l *ledger) inserted(t *testing.T, d deed, r told) {
	t.Helper()
	i, full := l.find(d.e.Q), len(l.entries) == l.room
	if r.err != api.OK {
		l.leave(t, r.gone, 0, 0)
		return
	}
	switch {
	case i >= 0 && l.entries[i].Expire > d.now && l.entries[i].Rank > d.e.Rank:
		t.Fatalf("%v was replaced by %v at %d", l.entries[i], d.e, d.now)
	case i >= 0:
		l.entries[i] = d.e
		l.leave(t, r.gone, 0, 0)
	case full:
		l.leave(t, r.gone, d.now, 1)
		l.entries = append(l.entries, d.e)
	default:
		l.leave(t, r.gone, 0, 0)
		l.entries = append(l.entries, d.e)
	}
}

// follow sees to it that what a call returned may be, and that the shard has just the entries that it must have.
func (l *ledger) follow(t *testing.T, s *Shard, d deed, r told) {
	t.Helper()
	switch i := l.find(d.e.Q); d.call {
	case 'I':
		l.inserted(t, d, r)
	case 'L':
		live := i >= 0 && l.entries[i].Expire > d.now
		if r.is != live || live && !same(r.e, l.entries[i]) {
			t.Fatalf("Lookup(%v, %d) = %v, %t", d.e.Q, d.now, r.e, r.is)
		}
	case 'E':
		if l.strike(d.e.Q) != r.is {
			t.Fatalf("Evict(%v) = %t", d.e.Q, r.is)
		}
	default:
		l.leave(t, r.gone, d.now, 0)
	}
	keys := s.Keys()
	if len(keys) != len(l.entries) || s.Len() != len(keys) || len(keys) > l.room || s.Room() != l.room {
		t.Fatalf("there are %d entries, with room for %d, want %d", len(keys), l.room, len(l.entries))
	}
	for i, q := range keys {
		if l.find(q) < 0 || slices.Contains(keys[:i], q) {
			t.Fatalf("Keys() = %v", keys)
		}
	}
}

func TestLongSequences(t *testing.T) { // P12.2, P12.3, P12.4
	for k, room := range rooms {
		b, l := newPair(room, sizes[k]), &ledger{room: room}
		for _, d := range mixed(4000, 2*room+1, uint64(k)) {
			b.do(t, d)
		}
		s := New(room, sizes[len(sizes)-1-k])
		for _, d := range mixed(4000, 2*room+1, uint64(100+k)) {
			l.follow(t, s, d, do(s, d))
		}
	}
}

func TestLongSequencesHaveAllThatCanHappen(t *testing.T) { // so that TestLongSequences sees it
	for k, room := range rooms {
		p := &plain{places: make([]place, room)}
		var fresh, replaced, none, low, due, victim, hit, missed, evicted, advanced int
		for _, d := range mixed(4000, 2*room+1, uint64(k)) {
			before, there := p.keys(), p.at(d.e.Q) >= 0
			dueThen := slices.ContainsFunc(p.places, func(x place) bool { return x.used && x.e.Expire <= d.now })
			r := p.do(d)
			for _, c := range []struct {
				is   bool
				many *int
			}{
				{d.call == 'I' && r.err == api.OK && !there && len(before) < room, &fresh},
				{d.call == 'I' && r.err == api.OK && there, &replaced},
				{r.err == api.ErrNone, &none},
				{r.err == api.ErrLow, &low},
				{d.call == 'I' && len(r.gone) > 0 && dueThen, &due},
				{d.call == 'I' && len(r.gone) > 0 && !dueThen, &victim},
				{d.call == 'L' && r.is, &hit},
				{d.call == 'L' && !r.is, &missed},
				{d.call == 'E' && r.is, &evicted},
				{d.call == 'A' && len(r.gone) > 0, &advanced},
			} {
				if c.is {
					*c.many++
				}
			}
		}
		counts := []int{fresh, replaced, none, low, due, victim, hit, missed, evicted, advanced}
		if slices.Min(counts) < 5 {
			t.Errorf("with room for %d, these happen so often: %v", room, counts)
		}
	}
}

// all is what a shard of that size returns behind each of a row of calls.
func all(room, size int, calls []deed) string {
	s := New(room, size)
	var text []byte
	for _, d := range calls {
		text = fmt.Appendln(text, do(s, d), s.Keys())
	}
	return string(text)
}

func TestNothingHangsOnTheSizeOrOnTheOrderOfAMap(t *testing.T) { // P12.1, R4
	for k, room := range rooms {
		calls := mixed(300, room+3, uint64(200+k))
		want := all(room, 1, calls)
		for size := 1; size <= 256; size += 5 {
			if got := all(room, size, calls); got != want {
				t.Errorf("shards with room for %d and of the sizes 1 and %d differ", room, size)
			}
		}
	}
}

// call reads a call from five bytes. The times lie about a given one and may wrap round.
func call(s string, room int, about uint64) deed {
	d := deed{call: "ILEA"[s[0]%4], now: about + uint64(s[4])}
	d.e = api.Entry{Q: numbered(int(s[1]) % (room + 3)), Rcode: int(s[3]), Rank: int(int8(s[2])), Expire: about + uint64(s[3])}
	if s[0] >= 128 {
		d.e.RRs = []api.RR{{TTL: uint32(s[0])}}
	}
	return d
}

// seeds gives f rows of calls to begin with.
func seeds(f *testing.F) {
	f.Add(1, 1, uint64(0), "\x00\x00\x03\x09\x00\x00\x01\x03\x09\x00\x01\x01\x00\x00\x00\x02\x01\x00\x00\x00")
	f.Add(2, 7, uint64(last-5), "\x00\x00\x03\x03\x00\x00\x01\x03\x05\x00\x80\x02\x01\x05\x03\x03\x00\x00\x00\x05")
	f.Add(3, 256, uint64(1<<63-4), "\x00\x00\x05\x09\x01\x00\x01\x05\x03\x01\x84\x02\x02\x07\x02\x01\x00\x00\x00\x04\x00\x03\x01\x08\x07\x00\x00\x01\x09\x04")
	f.Add(64, 3, uint64(1<<32-100), "\x00\x10\x05\xff\x01\x00\x11\xff\x03\x01\x04\x12\x80\x07\x02\x05\x12\x00\x00\x06\x06\x12\x00\x00\x00\x07\x00\x00\x00\x07")
}

// FuzzDeeds holds a shard against what the chapters say of it, call by call: P1, P12.1, P12.2, P12.3.
func FuzzDeeds(f *testing.F) {
	seeds(f)
	f.Fuzz(func(t *testing.T, room, size int, about uint64, calls string) {
		if may := room >= 1 && room <= 64 && size >= 1 && size <= 256; (New(room, size) != nil) != may {
			t.Errorf("New(%d, %d) is nil: %t", room, size, may)
		}
		room, size = 1+int(uint(room)%64), 1+int(uint(size)%256)
		b := newPair(room, size)
		for ; len(calls) >= 5; calls = calls[5:] {
			b.do(t, call(calls, room, about))
		}
	})
}

// FuzzBounds sees to it that nothing is there, goes, or is replaced but as P12.4 says: P1, P12.4.
func FuzzBounds(f *testing.F) {
	seeds(f)
	f.Fuzz(func(t *testing.T, room, size int, about uint64, calls string) {
		room, size = 1+int(uint(room)%64), 1+int(uint(size)%256)
		s, l := New(room, size), &ledger{room: room}
		for ; len(calls) >= 5; calls = calls[5:] {
			d := call(calls, room, about)
			l.follow(t, s, d, do(s, d))
		}
	})
}

func ExampleShard() {
	s := New(1, 16)
	first := api.Entry{Q: api.Question{Name: "\x01a\x00", Type: api.A, Class: api.IN}, Rank: 5, Expire: 10}
	second := api.Entry{Q: api.Question{Name: "\x01b\x00", Type: api.A, Class: api.IN}, Rank: 1, Expire: 20}
	fmt.Println(s.Insert(first, 1))
	gone, err := s.Insert(second, 1)
	fmt.Println(len(gone) == 1 && gone[0] == first.Q, err)
	_, found := s.Lookup(second.Q, 20)
	fmt.Println(found, s.Len(), len(s.Advance(20)), s.Len())
	// Output:
	// [] 0
	// true 0
	// false 1 1 0
}
