package model

import (
	"fmt"
	"math"
	"slices"
	"testing"

	"derrick/api"
)

const last = math.MaxUint64 // the last time that there is

// letters are the names of the questions that are looked for where a test says what is there.
const letters = "abcdefgh"

// times are edges of times, ascending.
var times = []uint64{0, 1, 2, 255, 256, 257, 1<<31 - 1, 1 << 31, 1<<32 - 1, 1 << 32, 1<<32 + 1, 1<<63 - 1, 1 << 63, 1<<63 + 1, last - 1, last}

// rooms and neverRooms are those that there may be and those that there may not be.
var (
	rooms      = []int{1, 2, 3, 7, 64, 65}
	neverRooms = []int{0, -1, -2, -64, -256, -65535, -1 << 31, 1 - 1<<32, 3 - 1<<32, math.MinInt, math.MinInt + 1, math.MinInt + 64}
)

func q(name string) api.Question {
	return api.Question{Name: "\x01" + name + "\x00", Type: api.A, Class: api.IN}
}

// qs are the questions of names, each of one letter.
func qs(names string) []api.Question {
	var l []api.Question
	for _, name := range names {
		l = append(l, q(string(name)))
	}
	return l
}

func e(name string, rank int, expire uint64) api.Entry {
	return api.Entry{Q: q(name), Rank: rank, Expire: expire}
}

// same reports whether two entries are equal.
func same(a, b api.Entry) bool {
	return a.Q == b.Q && slices.Equal(a.RRs, b.RRs) && a.Rcode == b.Rcode && a.Rank == b.Rank && a.Expire == b.Expire
}

// all returns the entries of questions that a model has. At 0 each of them is live, as none that ends at 0 can be there.
func all(m *Model, l []api.Question) []api.Entry {
	var found []api.Entry
	for _, q := range l {
		if e, ok := m.Lookup(q, 0); ok {
			found = append(found, e)
		}
	}
	return found
}

func insert(t *testing.T, m *Model, e api.Entry, now uint64) {
	t.Helper()
	if err := m.Insert(e, now); err != api.OK {
		t.Errorf("Insert(%v, %d) = %d", e, now, err)
	}
}

// refuse sees to it that an entry is not stored, and that all stays as it was.
func refuse(t *testing.T, m *Model, e api.Entry, now uint64, want api.Errno) {
	t.Helper()
	l := append(qs(letters), e.Q)
	many, was := m.Len(), all(m, l)
	if err := m.Insert(e, now); err != want {
		t.Errorf("Insert(%v, %d) = %d, want %d", e, now, err, want)
	}
	if is := all(m, l); m.Len() != many || !slices.EqualFunc(is, was, same) {
		t.Errorf("Insert(%v, %d) changed %v to %v", e, now, was, is)
	}
}

func lookup(t *testing.T, m *Model, now uint64, want api.Entry) {
	t.Helper()
	if got, ok := m.Lookup(want.Q, now); !ok || !same(got, want) {
		t.Errorf("Lookup(%v, %d) = %v, %t, want %v", want.Q, now, got, ok, want)
	}
}

func miss(t *testing.T, m *Model, q api.Question, now uint64) {
	t.Helper()
	if got, ok := m.Lookup(q, now); ok || got.RRs != nil || !same(got, api.Entry{}) {
		t.Errorf("Lookup(%v, %d) = %v, %t, want the zero entry", q, now, got, ok)
	}
}

func drop(t *testing.T, m *Model, q api.Question, want bool) {
	t.Helper()
	if got := m.Drop(q); got != want {
		t.Errorf("Drop(%v) = %t", q, got)
	}
}

// due sees to it that these entries are due, in that order.
func due(t *testing.T, m *Model, now uint64, want []api.Question) {
	t.Helper()
	if got := m.Due(now); !slices.Equal(got, want) {
		t.Errorf("Due(%d) = %v, want %v", now, got, want)
	}
}

// numbers sees to it that there are so many entries, and whether there is room for more.
func numbers(t *testing.T, m *Model, many int, full bool) {
	t.Helper()
	if got := m.Len(); got != many {
		t.Errorf("Len() = %d, want %d", got, many)
	}
	if got := m.Full(); got != full {
		t.Errorf("Full() = %t with %d entries", got, many)
	}
}

// are sees to it that there is room for so many entries, and that these and no others are there.
func are(t *testing.T, m *Model, room int, want ...api.Entry) {
	t.Helper()
	numbers(t, m, len(want), len(want) >= room)
	for _, e := range want {
		lookup(t, m, 0, e)
	}
	for _, q := range qs(letters) {
		there := slices.ContainsFunc(want, func(e api.Entry) bool { return e.Q == q })
		if got := m.Has(q); got != there {
			t.Errorf("Has(%v) = %t", q, got)
		}
		if !there {
			miss(t, m, q, 0)
		}
	}
}

// made returns a model with these entries, which are inserted at 0.
func made(t *testing.T, room int, l ...api.Entry) *Model {
	t.Helper()
	m := New(room)
	if m == nil {
		t.Fatalf("New(%d) = nil", room)
	}
	for _, e := range l {
		insert(t, m, e, 0)
	}
	return m
}

// numbered returns a question of its own for each number. They ascend.
func numbered(i int) api.Question {
	return api.Question{Name: string([]byte{2, byte(i >> 8), byte(i), 0}), Type: api.A, Class: api.IN}
}

func TestNew(t *testing.T) { // P13.1
	for room := 1; room <= 130; room++ {
		m := made(t, room)
		are(t, m, room)
		due(t, m, last, nil)
		drop(t, m, q("a"), false)
		var want []api.Question
		for i := range room {
			numbers(t, m, i, false)
			insert(t, m, api.Entry{Q: numbered(i), Expire: 5}, 0)
			want = append(want, numbered(i))
		}
		numbers(t, m, room, true)
		refuse(t, m, e("a", 1, 5), 0, api.ErrFull)
		numbers(t, m, room, true)
		due(t, m, 5, want)
		are(t, m, room)
	}
}

func TestNewIfThereIsNotEvenRoomForOne(t *testing.T) { // P13.1, P1
	for _, room := range neverRooms {
		if New(room) != nil {
			t.Errorf("New(%d) is not nil", room)
		}
	}
	for room := -1000; room <= 1000; room++ {
		if (New(room) != nil) != (room >= 1) {
			t.Errorf("New(%d) is nil: %t", room, New(room) == nil)
		}
	}
}

func TestNewForMoreThanThereCanBe(t *testing.T) { // P13.1, P1
	for _, room := range []int{257, 1 << 16, 1<<16 + 1, 1<<31 - 1, 1 << 31, 1<<31 + 1, 1<<32 - 1, 1 << 32, 1<<32 + 1, 1 << 40, 1<<63 - 64, math.MaxInt - 1, math.MaxInt} {
		m := made(t, room)
		are(t, m, room)
		for i := range 256 {
			insert(t, m, api.Entry{Q: numbered(i), Expire: 5}, 0)
			numbers(t, m, i+1, false)
		}
		if got := m.Due(5); len(got) != 256 {
			t.Errorf("Due(5) returned %d questions", len(got))
		}
	}
}

func TestNilModel(t *testing.T) { // P13.1, P13.2, R1, P1
	for _, m := range []*Model{nil, New(0), New(-1), New(math.MinInt)} {
		for _, expire := range times {
			for _, now := range times { // ErrArg also if the entry is not live
				refuse(t, m, e("a", 3, expire), now, api.ErrArg)
				refuse(t, m, api.Entry{Expire: expire}, now, api.ErrArg)
			}
		}
		for _, now := range times {
			miss(t, m, q("a"), now)
			miss(t, m, api.Question{}, now)
			due(t, m, now, nil)
		}
		drop(t, m, q("a"), false)
		drop(t, m, api.Question{}, false)
		are(t, m, 0) // so it is full
	}
}

func TestModelThatNewDidNotMake(t *testing.T) { // P1
	var m Model // one with room for nothing
	refuse(t, &m, e("a", 3, 5), 5, api.ErrNone)
	refuse(t, &m, e("a", 3, 6), 5, api.ErrFull)
	miss(t, &m, q("a"), 0)
	drop(t, &m, q("a"), false)
	due(t, &m, last, nil)
	are(t, &m, 0)
}

func TestInsertOfAnEntryThatIsNotLive(t *testing.T) { // P13.2
	for _, now := range times {
		for _, expire := range times {
			m := made(t, 2)
			if expire > now {
				insert(t, m, e("a", 3, expire), now)
				are(t, m, 2, e("a", 3, expire))
				lookup(t, m, now, e("a", 3, expire))
				continue
			}
			refuse(t, m, e("a", 3, expire), now, api.ErrNone)
			are(t, m, 2)
			due(t, m, last, nil)
		}
	}
	m := made(t, 1)
	refuse(t, m, e("a", 5, 6), 7, api.ErrNone) // it ends before now
	refuse(t, m, e("a", 5, 7), 7, api.ErrNone) // and at now
	insert(t, m, e("a", 5, 8), 7)              // and behind it
	refuse(t, m, e("a", 5, last), last, api.ErrNone)
	are(t, m, 1, e("a", 5, 8))
}

func TestInsertOfALowerRank(t *testing.T) { // P13.2
	for _, room := range []int{2, 3} { // full or not
		m := made(t, room, e("a", 3, 20), e("b", 5, 30))
		refuse(t, m, e("a", 2, 40), 0, api.ErrLow)
		refuse(t, m, e("a", 2, 40), 19, api.ErrLow)
		refuse(t, m, e("a", 0, 20), 19, api.ErrLow)
		refuse(t, m, e("a", math.MinInt, last), 19, api.ErrLow)
		insert(t, m, e("a", 2, 40), 20) // it has ended
		are(t, m, room, e("a", 2, 40), e("b", 5, 30))
		refuse(t, m, e("b", 4, 40), 29, api.ErrLow)
		insert(t, m, e("b", 4, 40), 31)
		are(t, m, room, e("a", 2, 40), e("b", 4, 40))
		insert(t, m, e("b", -5, last), last-1)
		are(t, m, room, e("a", 2, 40), e("b", -5, last))
	}
}

func TestInsertOfTheSameOrAHigherRank(t *testing.T) { // P13.2
	for _, rank := range []int{math.MinInt, -1, 0, 1, 2, 3, 4, 5, 6, 1 << 32, math.MaxInt} {
		for _, now := range []uint64{0, 19, 20, 21} {
			for _, room := range []int{2, 3} { // full or not
				m := made(t, room, e("a", rank, 20), e("b", 3, 30))
				insert(t, m, e("a", rank, 40), now)
				are(t, m, room, e("a", rank, 40), e("b", 3, 30))
				if rank < math.MaxInt {
					insert(t, m, e("a", rank+1, 22), now) // even if it ends sooner
					are(t, m, room, e("a", rank+1, 22), e("b", 3, 30))
					refuse(t, m, e("a", rank, 40), now, api.ErrLow)
				}
			}
		}
	}
}

func TestARankCountsForItsOwnQuestionAlone(t *testing.T) { // P13.2
	m := made(t, 3, e("a", 5, 20))
	insert(t, m, e("b", 1, 20), 0)
	insert(t, m, e("c", 3, 20), 0)
	refuse(t, m, e("b", 0, 20), 0, api.ErrLow)
	refuse(t, m, e("a", 4, 20), 0, api.ErrLow)
	insert(t, m, e("b", 1, 30), 0)
	are(t, m, 3, e("a", 5, 20), e("b", 1, 30), e("c", 3, 20))
	drop(t, m, q("a"), true)
	insert(t, m, e("a", 1, 20), 0) // nothing is left of the rank that was there
	are(t, m, 3, e("a", 1, 20), e("b", 1, 30), e("c", 3, 20))
	due(t, m, 20, qs("ac"))
	insert(t, m, e("c", 1, 25), 20)
	are(t, m, 3, e("b", 1, 30), e("c", 1, 25))
}

func TestInsertIntoAFullModel(t *testing.T) { // P13.2
	for _, room := range rooms {
		m := made(t, room)
		for i := range room {
			insert(t, m, api.Entry{Q: numbered(i), Rank: 3, Expire: 10}, 0)
		}
		for _, now := range []uint64{0, 9, 10, 11, last - 1} { // also once those that are there have ended
			refuse(t, m, e("a", 5, last), now, api.ErrFull)
			numbers(t, m, room, true)
		}
		for i := range room { // but each one is replaced
			refuse(t, m, api.Entry{Q: numbered(i), Rank: 2, Expire: 20}, 9, api.ErrLow)
			insert(t, m, api.Entry{Q: numbered(i), Rank: 3, Expire: 20}, 9)
			insert(t, m, api.Entry{Q: numbered(i), Rank: 4, Expire: 30}, 9)
			insert(t, m, api.Entry{Q: numbered(i), Rank: 1, Expire: 40}, 30)
			numbers(t, m, room, true)
		}
		for i := range room {
			lookup(t, m, 39, api.Entry{Q: numbered(i), Rank: 1, Expire: 40})
		}
		drop(t, m, numbered(room/2), true)
		numbers(t, m, room-1, false)
		insert(t, m, e("a", 1, 50), 0)
		refuse(t, m, e("b", 1, 50), 0, api.ErrFull)
		numbers(t, m, room, true)
	}
}

func TestWhichErrorOfInsertComesFirst(t *testing.T) { // P13.2, R1
	m := made(t, 2, e("a", 3, 10), e("b", 3, 20))
	refuse(t, m, e("a", 2, 4), 5, api.ErrNone) // a lower rank, too
	refuse(t, m, e("a", 2, 5), 5, api.ErrNone)
	refuse(t, m, e("a", 2, 6), 5, api.ErrLow)   // full, too, but not of another question
	refuse(t, m, e("a", 3, 5), 5, api.ErrNone)  // a rank that would do
	refuse(t, m, e("a", 2, 9), 10, api.ErrNone) // what is there is not live either
	refuse(t, m, e("c", 9, 5), 5, api.ErrNone)  // full, too
	refuse(t, m, e("c", 9, 4), 5, api.ErrNone)
	refuse(t, m, e("c", 9, 6), 5, api.ErrFull)
	refuse(t, m, e("c", 9, 30), 25, api.ErrFull) // of entries that are not live
	var none *Model
	refuse(t, none, e("a", 2, 5), 5, api.ErrArg)
	refuse(t, none, e("a", 2, 6), 5, api.ErrArg)
	are(t, m, 2, e("a", 3, 10), e("b", 3, 20))
}

func TestWhatIsNotLiveIsThereStill(t *testing.T) { // P13.1, P13.2
	for _, now := range []uint64{10, 11, last - 1} {
		m := made(t, 2, e("a", 3, 10), e("b", 3, 10))
		for range 2 { // asking for it removes nothing
			miss(t, m, q("a"), now)
			miss(t, m, q("b"), now)
			refuse(t, m, e("c", 5, last), now, api.ErrFull)
			are(t, m, 2, e("a", 3, 10), e("b", 3, 10))
		}
		insert(t, m, e("a", 1, last), now) // until it is replaced
		are(t, m, 2, e("a", 1, last), e("b", 3, 10))
		lookup(t, m, now, e("a", 1, last))
		refuse(t, m, e("c", 5, last), now, api.ErrFull)
		drop(t, m, q("b"), true) // or dropped
		are(t, m, 2, e("a", 1, last))
		insert(t, m, e("c", 1, last), now)
		due(t, m, last, qs("ac")) // or due
		are(t, m, 2)
	}
}

func TestLookup(t *testing.T) { // P13.1
	m := made(t, 3, e("a", 3, 10), e("b", 2, 20))
	lookup(t, m, 0, e("a", 3, 10))
	lookup(t, m, 9, e("a", 3, 10)) // it ends behind now
	miss(t, m, q("a"), 10)         // and at now
	miss(t, m, q("a"), 11)         // and before
	miss(t, m, q("a"), last)
	lookup(t, m, 9, e("a", 3, 10)) // at an earlier time it is live still
	lookup(t, m, 19, e("b", 2, 20))
	miss(t, m, q("b"), 20)
	miss(t, m, q("c"), 0) // not there
	miss(t, m, api.Question{}, 0)
	are(t, m, 3, e("a", 3, 10), e("b", 2, 20))
	for _, expire := range times[1:] {
		for _, now := range times {
			m := made(t, 1, e("a", 3, expire))
			if now < expire {
				lookup(t, m, now, e("a", 3, expire))
			} else {
				miss(t, m, q("a"), now)
			}
			are(t, m, 1, e("a", 3, expire))
		}
	}
}

func TestLookupTakesRankAndRcodeForNothing(t *testing.T) { // P13.1
	for _, n := range []int{math.MinInt, -1, 0, 1, 5, 6, math.MaxInt} {
		want := api.Entry{Q: q("a"), Rcode: n, Rank: n, Expire: 10}
		m := made(t, 1, want)
		lookup(t, m, 9, want)
		miss(t, m, q("a"), 10)
	}
}

func TestTheExample(t *testing.T) { // P13.1
	m := New(1)
	insert(t, m, e("a", 3, 9), 0)
	lookup(t, m, 8, e("a", 3, 9))
	miss(t, m, q("a"), 9)
}

func TestLookupReturnsWhatWasInsertedLast(t *testing.T) { // P13.3
	m := made(t, 1)
	for i := range 200 {
		x := api.Entry{Q: q("a"), RRs: []api.RR{{TTL: uint32(i)}}, Rcode: i, Rank: 3, Expire: uint64(300 + i*7%100)}
		insert(t, m, x, 200)
		lookup(t, m, 299, x)
		lookup(t, m, x.Expire-1, x)
		miss(t, m, q("a"), x.Expire)
		are(t, m, 1, x)
	}
}

func TestLookupChangesNothing(t *testing.T) { // P13.3
	m, other := made(t, 3, e("a", 3, 10), e("b", 4, 20), e("c", 5, 30)), made(t, 3, e("a", 3, 10), e("b", 4, 20), e("c", 5, 30))
	for _, now := range append([]uint64{9, 10, 11, 19, 20, 21, 29, 30, 31}, times...) {
		for _, q := range append(qs(letters), api.Question{}) {
			m.Lookup(q, now)
			m.Has(q)
			are(t, m, 3, e("a", 3, 10), e("b", 4, 20), e("c", 5, 30))
		}
	}
	for _, m := range []*Model{m, other} { // what is done next does not tell them apart
		refuse(t, m, e("b", 3, 20), 19, api.ErrLow)
		refuse(t, m, e("d", 3, 20), 19, api.ErrFull)
		due(t, m, 20, qs("ab"))
		drop(t, m, q("c"), true)
		are(t, m, 3)
	}
}

func TestDrop(t *testing.T) { // P13.2
	m := made(t, 3, e("a", 3, 10), e("b", 4, 20), e("c", 5, 30))
	drop(t, m, q("d"), false)
	drop(t, m, api.Question{}, false)
	are(t, m, 3, e("a", 3, 10), e("b", 4, 20), e("c", 5, 30))
	drop(t, m, q("b"), true)
	are(t, m, 3, e("a", 3, 10), e("c", 5, 30))
	drop(t, m, q("b"), false) // the same one twice
	are(t, m, 3, e("a", 3, 10), e("c", 5, 30))
	miss(t, m, q("b"), 0)
	insert(t, m, e("d", 1, 40), 0) // there is room again
	are(t, m, 3, e("a", 3, 10), e("c", 5, 30), e("d", 1, 40))
	refuse(t, m, e("b", 1, 40), 0, api.ErrFull)
	miss(t, m, q("a"), 10)
	drop(t, m, q("a"), true) // there is one, live or not
	drop(t, m, q("a"), false)
	due(t, m, 29, nil) // so it is not due any more
	insert(t, m, e("a", 1, 5), 0)
	due(t, m, last, qs("acd"))
	drop(t, m, q("a"), false)
	are(t, m, 3)
}

func TestDropOfEachEntry(t *testing.T) { // P13.2
	for _, room := range rooms {
		for k := range room {
			m := made(t, room)
			var rest []api.Question
			for i := range room {
				insert(t, m, api.Entry{Q: numbered(i), Expire: 9}, 0)
				if i != k {
					rest = append(rest, numbered(i))
				}
			}
			drop(t, m, numbered(k), true)
			numbers(t, m, room-1, false)
			drop(t, m, numbered(k), false)
			due(t, m, 9, rest)
			are(t, m, room)
		}
	}
}

func TestDue(t *testing.T) { // P13.2
	for now := uint64(0); now <= 30; now++ {
		m := made(t, 4, e("c", 1, 21), e("b", 3, 20), e("a", 2, 22), e("d", 4, 20))
		switch {
		case now < 20:
			due(t, m, now, nil)
			are(t, m, 4, e("c", 1, 21), e("b", 3, 20), e("a", 2, 22), e("d", 4, 20))
		case now == 20:
			due(t, m, now, qs("bd"))
			are(t, m, 4, e("c", 1, 21), e("a", 2, 22))
		case now == 21:
			due(t, m, now, qs("bcd")) // whichever ends first
			are(t, m, 4, e("a", 2, 22))
		default:
			due(t, m, now, qs("abcd"))
			are(t, m, 4)
		}
		due(t, m, now, nil) // the same time again
		due(t, m, 0, nil)
	}
	for _, expire := range times[1:] {
		for _, now := range times {
			m := made(t, 1, e("a", 3, expire))
			if now < expire {
				due(t, m, now, nil)
				are(t, m, 1, e("a", 3, expire))
			} else {
				due(t, m, now, qs("a"))
				are(t, m, 1)
			}
		}
	}
}

func TestDueAtTheLeastAndTheGreatestTime(t *testing.T) { // P13.2
	m := made(t, 4, e("d", 3, last), e("c", 3, 1), e("b", 3, last-1), e("a", 3, 1<<63))
	due(t, m, 0, nil)
	are(t, m, 4, e("d", 3, last), e("c", 3, 1), e("b", 3, last-1), e("a", 3, 1<<63))
	due(t, m, 1, qs("c"))
	due(t, m, 1<<63-1, nil)
	due(t, m, 1<<63, qs("a"))
	due(t, m, last-1, qs("b"))
	due(t, m, last-1, nil)
	are(t, m, 4, e("d", 3, last))
	due(t, m, last, qs("d"))
	due(t, m, last, nil)
	are(t, m, 4)

	m = made(t, 4, e("d", 3, last), e("c", 3, 1), e("b", 3, last-1), e("a", 3, 1<<63))
	due(t, m, last, qs("abcd"))
	are(t, m, 4)
}

func TestDueAtATimeBeforeAnEarlierOne(t *testing.T) { // P13.2
	m := made(t, 3, e("a", 3, 50), e("b", 3, 500), e("c", 3, 1000))
	due(t, m, 600, qs("ab"))
	due(t, m, 100, nil)
	are(t, m, 3, e("c", 3, 1000))
	insert(t, m, e("d", 3, 60), 10) // at a time that has been
	insert(t, m, e("a", 3, 300), 10)
	lookup(t, m, 59, e("d", 3, 60))
	due(t, m, 59, nil)
	due(t, m, 60, qs("d"))
	due(t, m, 0, nil)
	are(t, m, 3, e("a", 3, 300), e("c", 3, 1000))
	due(t, m, 1000, qs("ac"))
}

func TestDueMakesRoom(t *testing.T) { // P13.2
	m := made(t, 3, e("a", 3, 10), e("b", 3, 20), e("c", 3, 10))
	refuse(t, m, e("d", 3, 90), 10, api.ErrFull)
	due(t, m, 10, qs("ac"))
	numbers(t, m, 1, false)
	insert(t, m, e("d", 3, 90), 10)
	insert(t, m, e("e", 3, 80), 10)
	refuse(t, m, e("f", 3, 90), 10, api.ErrFull)
	due(t, m, 19, nil)
	are(t, m, 3, e("b", 3, 20), e("d", 3, 90), e("e", 3, 80))
}

func TestDueOfAReplacedEntryIsAtItsNewEnd(t *testing.T) { // P13.2, P13.3
	for _, from := range times[1:] {
		for _, to := range times[1:] {
			m := made(t, 2, e("a", 3, from))
			insert(t, m, e("a", 3, to), 0)
			due(t, m, to-1, nil) // not when the first one would have been
			lookup(t, m, to-1, e("a", 3, to))
			miss(t, m, q("a"), to)
			due(t, m, to, qs("a"))
			due(t, m, last, nil)
			are(t, m, 2)
		}
	}
}

// names are strings in ascending order: neither by their lengths, nor by signed bytes, nor by letters of whichever case.
var names = []string{"", "\x00", "\x00\x00", "\x00\xff", "\x01", "\x01a", "\x01a\x00", "\x01a\x00\x00", "\x01b\x00", "\x02aa\x00", "\x02ab\x00", "\x03aaa\x00", "B", "ab", "aba", "abb", "b", "\x7f", "\x80", "\xc3\xa4", "\xff", "\xff\x00", "\xff\xff"}

// words are numbers in ascending order: neither by either byte alone, nor as signed ones, nor in decimal.
var words = []uint16{0, 1, 2, 9, 10, 28, 100, 127, 128, 255, 256, 257, 511, 512, 513, 9999, 10000, 32767, 32768, 32769, 65280, 65534, 65535}

// ascending sees to it that Due returns these in their order, in whichever order they are inserted, and whichever ends first.
func ascending(t *testing.T, want []api.Question) {
	t.Helper()
	many := len(want)
	for step := 1; step <= 2*many; step++ {
		m := made(t, many)
		for i := range 2 * many { // by steps, and then, for those that these pass by, backwards
			at := i * step % many
			if i >= many {
				at = 2*many - 1 - i
			}
			insert(t, m, api.Entry{Q: want[at], Rank: 3, Expire: uint64(1 + (many-at)*step%11)}, 0)
		}
		numbers(t, m, many, true)
		due(t, m, 11, want)
		numbers(t, m, 0, false)
	}
}

func TestDueIsOrderedByName(t *testing.T) { // P13.2
	var l []api.Question
	for _, name := range names {
		l = append(l, api.Question{Name: name, Type: api.A, Class: api.IN})
	}
	ascending(t, l)
}

func TestDueIsOrderedByType(t *testing.T) { // P13.2
	var l []api.Question
	for _, word := range words {
		l = append(l, api.Question{Name: "\x01a\x00", Type: word, Class: api.IN})
	}
	ascending(t, l)
}

func TestDueIsOrderedByClass(t *testing.T) { // P13.2
	var l []api.Question
	for _, word := range words {
		l = append(l, api.Question{Name: "\x01a\x00", Type: api.A, Class: word})
	}
	ascending(t, l)
}

func TestDueIsOrderedByNameThenTypeThenClass(t *testing.T) { // P13.2
	var l []api.Question
	for _, name := range []string{"", "\x01a\x00", "\x01b\x00", "\xff"} {
		for _, kind := range []uint16{0, 1, 255, 256, 65535} {
			for _, class := range []uint16{0, 1, 255, 256, 65535} {
				l = append(l, api.Question{Name: name, Type: kind, Class: class})
			}
		}
	}
	ascending(t, l)
	ascending(t, []api.Question{ // each part against those behind it
		{Name: "a", Type: 1, Class: 3}, {Name: "a", Type: 2, Class: 1}, {Name: "a", Type: 2, Class: 2},
		{Name: "b", Type: 1, Class: 1}, {Name: "b", Type: 3, Class: 0}, {Name: "c", Type: 0, Class: 0},
	})
}

// kinds are entries of different questions that differ in all parts. Some of them are not valid.
func kinds() []api.Entry {
	ab := "\x02ab\x00"
	address := api.RR{Name: ab, Type: api.A, Class: api.IN, TTL: 5, Data: "\x01\x02\x03\x04"}
	return []api.Entry{
		{Q: api.Question{}},
		{Q: api.Question{Type: 65535, Class: 65535}},
		{Q: api.Question{Name: string(make([]byte, 1000))}, RRs: make([]api.RR, 500)},
		{Q: api.Question{Name: "\x02AB\x00", Type: api.A, Class: api.IN}, RRs: []api.RR{{}, {}, {}}},
		{Q: api.Question{Name: "\x02ab", Type: api.A, Class: api.IN}, Rank: -1},
		{Q: api.Question{Name: ab, Type: api.A, Class: api.IN}, RRs: []api.RR{address}, Rank: 3},
		{Q: api.Question{Name: ab, Type: api.A, Class: 2}, RRs: []api.RR{}, Rcode: api.NXDomain, Rank: 1},
		{Q: api.Question{Name: ab, Type: api.A, Class: api.IN + 256}, Rcode: math.MaxInt, Rank: math.MinInt},
		{Q: api.Question{Name: ab, Type: api.NS, Class: api.IN}, RRs: []api.RR{address, {Name: "other", TTL: math.MaxUint32}}, Rank: 5},
		{Q: api.Question{Name: ab, Type: api.A + 256, Class: api.IN}, Rcode: math.MinInt, Rank: math.MaxInt},
		{Q: api.Question{Name: "\x02ab\x00\x00", Type: api.A, Class: api.IN}, Rank: -1},
		{Q: api.Question{Name: "ab", Type: api.A, Class: api.IN}},
		{Q: api.Question{Name: "\xff\xfe"}, RRs: []api.RR{address}},
	}
}

func TestQuestionsThatDifferInAnyPart(t *testing.T) { // P13.1, P13.2, R5
	l := kinds()
	m := made(t, len(l))
	var want []api.Question
	for i, x := range l {
		miss(t, m, x.Q, 0)
		drop(t, m, x.Q, false)
		if m.Has(x.Q) {
			t.Errorf("Has(%v) = true", x.Q)
		}
		x.Expire = uint64(10 + i)
		l[i] = x
		insert(t, m, x, 0)
		want = append(want, x.Q)
		for _, other := range l[:i+1] {
			lookup(t, m, 9, other)
		}
	}
	for i, x := range l { // each in place of its own, and of no other
		x.RRs, x.Rcode, x.Expire = []api.RR{{Name: "new"}}, i, uint64(100+i)
		insert(t, m, x, 0)
		l[i] = x
		for _, other := range l {
			lookup(t, m, 9, other)
		}
	}
	numbers(t, m, len(l), true)
	for i, x := range l[3:] {
		drop(t, m, x.Q, true)
		for _, other := range l[3+i+1:] {
			lookup(t, m, 9, other)
		}
	}
	due(t, m, last, want[:3])
	for _, x := range l {
		insert(t, m, x, 0)
	}
	due(t, m, last, want)
}

func TestNoRecordsAreAsGoodAsNil(t *testing.T) { // R2
	for _, l := range [][]api.RR{nil, {}, make([]api.RR, 0, 5)} {
		m := made(t, 1, api.Entry{Q: q("a"), RRs: l, Rcode: api.NXDomain, Rank: 3, Expire: 9})
		if got, ok := m.Lookup(q("a"), 8); !ok || len(got.RRs) > 0 || got.Rcode != api.NXDomain {
			t.Errorf("Lookup = %v, %t", got, ok)
		}
	}
}

func TestTheArgumentIsLeftAndNotKept(t *testing.T) { // R3
	address := api.RR{Name: "\x02ab\x00", Type: api.A, Class: api.IN, TTL: 5, Data: "\x01\x02\x03\x04"}
	records := []api.RR{address, {Name: "\x01a\x00"}}
	x := api.Entry{Q: q("a"), RRs: records, Rank: 3, Expire: 9}
	want := x
	want.RRs = slices.Clone(records)
	m := made(t, 1)
	for range 2 { // stored anew, and in place of another
		insert(t, m, x, 0)
		if !same(x, want) {
			t.Errorf("Insert changed the entry to %v", x)
		}
		records[0].TTL = 6
		records[1].Name = "other"
		lookup(t, m, 0, want)
		records[0], records[1] = want.RRs[0], want.RRs[1]
	}
	x.RRs = records[:1]
	insert(t, m, x, 0)
	got, _ := m.Lookup(q("a"), 0)
	_ = append(got.RRs, api.RR{Name: "more"})
	if records[1].Name != "\x01a\x00" {
		t.Errorf("the records changed to %v", records)
	}
}

func TestWhatIsReturnedIsNotKept(t *testing.T) { // R3
	want := api.Entry{Q: q("a"), RRs: []api.RR{{TTL: 1}, {TTL: 2}}, Expire: 9}
	m := made(t, 3, want, e("b", 3, 9), e("c", 3, 20))
	got, _ := m.Lookup(q("a"), 0)
	other, _ := m.Lookup(q("a"), 0)
	got.RRs[0].TTL = 7
	got.RRs = append(got.RRs[:1], api.RR{TTL: 8})
	lookup(t, m, 0, want)
	if !same(other, want) {
		t.Errorf("an entry that was returned before changed to %v", other)
	}
	gone := m.Due(9)
	gone[0], gone[1] = q("c"), q("c")
	_ = append(gone[:1], q("d"))
	are(t, m, 3, e("c", 3, 20))
	m.Due(20)
	if gone[0] != q("c") || gone[1] != q("d") {
		t.Errorf("what Due returned before changed to %v", gone)
	}
}

func TestModelsAreNotShared(t *testing.T) { // R3, R4
	a, b := made(t, 2, e("a", 3, 10), e("b", 3, 20)), made(t, 2, e("a", 3, 10), e("b", 3, 20))
	insert(t, a, e("a", 4, 90), 0)
	drop(t, a, q("b"), true)
	insert(t, a, e("c", 4, 90), 0)
	are(t, a, 2, e("a", 4, 90), e("c", 4, 90))
	are(t, b, 2, e("a", 3, 10), e("b", 3, 20))
	due(t, b, 20, qs("ab"))
	are(t, a, 2, e("a", 4, 90), e("c", 4, 90))
	are(t, b, 2)
}

// plain is what the chapter says of a model. It has no map: it goes through all of its entries, which lie in the order of their questions.
type plain struct {
	room    int
	entries []api.Entry
}

// before reports whether one question comes before another.
func before(a, b api.Question) bool {
	if a.Name != b.Name {
		return a.Name < b.Name
	}
	if a.Type != b.Type {
		return a.Type < b.Type
	}
	return a.Class < b.Class
}

// at returns where the entry of a question is, or -1.
func (p *plain) at(q api.Question) int {
	return slices.IndexFunc(p.entries, func(e api.Entry) bool { return e.Q == q })
}

func (p *plain) insert(e api.Entry, now uint64) api.Errno {
	if e.Expire <= now {
		return api.ErrNone
	}
	if i := p.at(e.Q); i >= 0 {
		if old := p.entries[i]; old.Expire > now && old.Rank > e.Rank {
			return api.ErrLow
		}
		p.entries[i] = e
		return api.OK
	}
	if len(p.entries) >= p.room {
		return api.ErrFull
	}
	at := slices.IndexFunc(p.entries, func(x api.Entry) bool { return before(e.Q, x.Q) })
	if at < 0 {
		at = len(p.entries)
	}
	p.entries = slices.Insert(p.entries, at, e)
	return api.OK
}

func (p *plain) lookup(q api.Question, now uint64) (api.Entry, bool) {
	if i := p.at(q); i >= 0 && p.entries[i].Expire > now {
		return p.entries[i], true
	}
	return api.Entry{}, false
}

func (p *plain) drop(q api.Question) bool {
	i := p.at(q)
	if i >= 0 {
		p.entries = slices.Delete(p.entries, i, i+1)
	}
	return i >= 0
}

func (p *plain) due(now uint64) []api.Question {
	var gone []api.Question
	var rest []api.Entry
	for _, e := range p.entries {
		if e.Expire <= now {
			gone = append(gone, e.Q)
		} else {
			rest = append(rest, e)
		}
	}
	p.entries = rest
	return gone
}

// The calls of a deed.
const (
	inserts = iota
	lookups
	drops
	dues
)

type deed struct {
	call int
	e    api.Entry
	now  uint64
}

// told is what a call returns.
type told struct {
	e    api.Entry
	is   bool
	err  api.Errno
	gone []api.Question
}

func (p *plain) do(d deed) told {
	var r told
	switch d.call {
	case inserts:
		r.err = p.insert(d.e, d.now)
	case lookups:
		r.e, r.is = p.lookup(d.e.Q, d.now)
	case drops:
		r.is = p.drop(d.e.Q)
	default:
		r.gone = p.due(d.now)
	}
	return r
}

func do(m *Model, d deed) told {
	var r told
	switch d.call {
	case inserts:
		r.err = m.Insert(d.e, d.now)
	case lookups:
		r.e, r.is = m.Lookup(d.e.Q, d.now)
	case drops:
		r.is = m.Drop(d.e.Q)
	default:
		r.gone = m.Due(d.now)
	}
	return r
}

// pair has a model and what the chapter says of it.
type pair struct {
	m *Model
	p *plain
}

func newPair(room int) pair {
	return pair{New(room), &plain{room: room}}
}

// do sees to it that a call returns what the chapter says, and that there is then what it says of these questions.
func (b pair) do(t *testing.T, d deed, l []api.Question) {
	t.Helper()
	was := fmt.Sprint(b.p.entries)
	got, want := do(b.m, d), b.p.do(d)
	if !same(got.e, want.e) || got.is != want.is || got.err != want.err || !slices.Equal(got.gone, want.gone) {
		t.Fatalf("call %d of %v at %d returned %v, want %v; there was %s", d.call, d.e, d.now, got, want, was)
	}
	if b.m.Len() != len(b.p.entries) || b.m.Full() != (len(b.p.entries) >= b.p.room) || b.m.Len() > b.p.room {
		t.Fatalf("there are %d entries behind call %d of %v at %d, and it is full: %t; there was %s", b.m.Len(), d.call, d.e, d.now, b.m.Full(), was)
	}
	for _, q := range l {
		got, ok := b.m.Lookup(q, 0)
		want, there := b.p.lookup(q, 0)
		if ok != there || b.m.Has(q) != there || !same(got, want) {
			t.Fatalf("behind call %d of %v at %d there is %v, want %v; there was %s", d.call, d.e, d.now, got, want, was)
		}
	}
}

// few are questions that differ in one part alone, in an order that is not theirs.
var few = []api.Question{{Name: "b", Type: 1, Class: 1}, {Name: "a", Type: 2, Class: 1}, {Name: "a", Type: 1, Class: 1}, {Name: "a", Type: 1, Class: 2}}

// deeds are calls of these questions, with two ranks, and two times at which entries end.
func deeds(l []api.Question) []deed {
	var all []deed
	for _, now := range []uint64{0, 2, 4} {
		all = append(all, deed{call: dues, now: now})
		for _, q := range l {
			all = append(all, deed{lookups, api.Entry{Q: q}, now}, deed{drops, api.Entry{Q: q}, now})
			for _, rank := range []int{1, 2} {
				for _, expire := range []uint64{2, 4} {
					all = append(all, deed{inserts, api.Entry{Q: q, Rank: rank, Expire: expire}, now})
				}
			}
		}
	}
	return all
}

// paths has for each state that these calls lead to the calls that lead to it.
func paths(room int, calls []deed) [][]deed {
	all := [][]deed{nil}
	seen := map[string]int{fmt.Sprint([]api.Entry(nil)): 0}
	for n := 0; n < len(all); n++ {
		for _, d := range calls {
			path := append(slices.Clone(all[n]), d)
			p := &plain{room: room}
			for _, d := range path {
				p.do(d)
			}
			state := fmt.Sprint(p.entries)
			if _, is := seen[state]; !is {
				seen[state] = len(all)
				all = append(all, path)
			}
		}
	}
	return all
}

func TestEveryStateOfALittleRoom(t *testing.T) { // P13.1, P13.2
	for room := 1; room <= 3; room++ {
		l := few[:room+1]
		calls := deeds(l)
		for _, path := range paths(room, calls) {
			for _, d := range calls {
				b := newPair(room)
				for _, d := range path {
					b.do(t, d, nil)
				}
				b.do(t, d, l)
			}
		}
	}
}

// questions are so many, of few names, types and classes.
func questions(many int) []api.Question {
	l := make([]api.Question, many)
	for i := range l {
		l[i] = api.Question{Name: names[i/9%len(names)], Type: words[i/3%3*5], Class: words[i%3*5+i/(9*len(names))]}
	}
	return l
}

// mixed returns a row of calls of these questions, the same one for the same numbers. The times go on, but for a few that lie before.
func mixed(many int, l []api.Question, state uint64) []deed {
	var all []deed
	now := uint64(0)
	next := func(n int) int {
		state = state*6364136223846793005 + 1442695040888963407
		return int(state >> 33 % uint64(n))
	}
	for range many {
		now += uint64(next(3) / 2)
		d := deed{call: []int{inserts, inserts, inserts, inserts, inserts, lookups, lookups, lookups, drops}[next(9)], now: now}
		if next(2*len(l)) == 0 {
			d.call = dues
		}
		if next(9) == 0 {
			d.now -= min(now, uint64(next(9)))
		}
		d.e = api.Entry{Q: l[next(len(l))], Rcode: next(3), Rank: 1 + next(5), Expire: d.now + uint64(next(10+4*len(l)))}
		if next(2) == 0 {
			d.e.RRs = []api.RR{{Name: d.e.Q.Name, TTL: uint32(next(9))}}
		}
		switch next(50) {
		case 0:
			d.e.Expire = last
		case 1:
			d.e.Expire = d.now
		}
		all = append(all, d)
	}
	return all
}

func TestLongSequences(t *testing.T) { // P13.1, P13.2
	for k, room := range rooms {
		b := newPair(room)
		l := questions(2*room + 1)
		for i, d := range mixed(5000, l, uint64(k)) {
			if i%20 == 0 {
				b.do(t, d, l)
			} else {
				b.do(t, d, []api.Question{d.e.Q})
			}
		}
	}
}

func TestLongSequencesHaveAllThatCanHappen(t *testing.T) { // so that TestLongSequences sees it
	for k, room := range rooms {
		p := &plain{room: room}
		var fresh, replaced, lower, none, low, full, fullOfEnded, hit, missed, ended, dropped, nothing, gone int
		for _, d := range mixed(5000, questions(2*room+1), uint64(k)) {
			var old api.Entry
			i := p.at(d.e.Q)
			if i >= 0 {
				old = p.entries[i]
			}
			dueThen := slices.ContainsFunc(p.entries, func(e api.Entry) bool { return e.Expire <= d.now })
			r := p.do(d)
			stored := d.call == inserts && r.err == api.OK
			for _, c := range []struct {
				is   bool
				many *int
			}{
				{stored && i < 0, &fresh},
				{stored && i >= 0 && old.Expire > d.now, &replaced},
				{stored && i >= 0 && old.Expire <= d.now && old.Rank > d.e.Rank, &lower},
				{r.err == api.ErrNone, &none},
				{r.err == api.ErrLow, &low},
				{r.err == api.ErrFull && !dueThen, &full},
				{r.err == api.ErrFull && dueThen, &fullOfEnded},
				{d.call == lookups && r.is, &hit},
				{d.call == lookups && i < 0, &missed},
				{d.call == lookups && i >= 0 && !r.is, &ended},
				{d.call == drops && r.is, &dropped},
				{d.call == drops && !r.is, &nothing},
				{d.call == dues && len(r.gone) > 0, &gone},
			} {
				if c.is {
					*c.many++
				}
			}
		}
		counts := []int{fresh, replaced, lower, none, low, full, fullOfEnded, hit, missed, ended, dropped, nothing, gone}
		if slices.Min(counts) < 5 {
			t.Errorf("with room for %d, these happen so often: %v", room, counts)
		}
	}
}

// past has the calls of a model that were made, and what they returned.
type past struct {
	deeds []deed
	tolds []told
}

func (h *past) add(d deed, r told) {
	h.deeds, h.tolds = append(h.deeds, d), append(h.tolds, r)
}

// latest returns the entry of a question that was inserted last, unless it was dropped or due since.
func (h *past) latest(q api.Question) (api.Entry, bool) {
	for i := len(h.deeds) - 1; i >= 0; i-- {
		d, r := h.deeds[i], h.tolds[i]
		switch {
		case d.call == inserts && r.err == api.OK && d.e.Q == q:
			return d.e, true
		case d.call == drops && d.e.Q == q, slices.Contains(r.gone, q):
			return api.Entry{}, false
		}
	}
	return api.Entry{}, false
}

// follow makes a call and sees to it that what it returns agrees with the earlier ones.
func (h *past) follow(t *testing.T, m *Model, room int, d deed, l []api.Question) {
	t.Helper()
	r := do(m, d)
	e, there := h.latest(d.e.Q)
	want := told{}
	switch {
	case d.call == lookups && there && e.Expire > d.now:
		want.e, want.is = e, true
	case d.call == drops:
		want.is = there
	case d.call == inserts:
		want.err = r.err
	case d.call == dues:
		for _, q := range l {
			if e, there := h.latest(q); there && e.Expire <= d.now {
				want.gone = append(want.gone, q)
			}
		}
		slices.SortFunc(want.gone, func(a, b api.Question) int {
			if before(a, b) {
				return -1
			}
			return 1
		})
	}
	if !same(r.e, want.e) || r.is != want.is || r.err != want.err || !slices.Equal(r.gone, want.gone) {
		t.Fatalf("call %d of %v at %d returned %v, want %v", d.call, d.e, d.now, r, want)
	}
	h.add(d, r)
	many := 0
	for _, q := range l {
		e, there := h.latest(q)
		if there {
			many++
		}
		if got, ok := m.Lookup(q, 0); ok != there || m.Has(q) != there || !same(got, e) {
			t.Fatalf("behind call %d of %v at %d there is %v, want %v", d.call, d.e, d.now, got, e)
		}
	}
	if m.Len() != many || many > room {
		t.Fatalf("there are %d entries, with room for %d, and Len is %d", many, room, m.Len())
	}
}

func TestEachCallAgreesWithTheEarlierOnes(t *testing.T) { // P13.3
	for k, room := range []int{1, 2, 5, 9} {
		m, h, l := New(room), &past{}, questions(2*room+1)
		for _, d := range mixed(1500, l, uint64(100+k)) {
			h.follow(t, m, room, d, l)
		}
	}
}

// run is what a model returns behind each of a row of calls.
func run(room int, calls []deed) string {
	m := New(room)
	var text []byte
	for _, d := range calls {
		text = fmt.Appendln(text, do(m, d), m.Len(), m.Full())
	}
	return string(text)
}

func TestNothingHangsOnTheOrderOfAMap(t *testing.T) { // R4
	for k, room := range rooms {
		calls := mixed(1000, questions(2*room+1), uint64(200+k))
		want := run(room, calls)
		for range 10 {
			if got := run(room, calls); got != want {
				t.Errorf("the same calls of two models with room for %d do not return the same", room)
			}
		}
	}
}

// call reads a call from five bytes. The times lie about a given one and may wrap round.
func call(s string, l []api.Question, about uint64) deed {
	d := deed{call: int(s[0] % 4), now: about + uint64(s[4])}
	d.e = api.Entry{Q: l[int(s[1])%len(l)], Rcode: int(s[3]), Rank: int(int8(s[2])), Expire: about + uint64(s[3])}
	if s[0] >= 128 {
		d.e.RRs = []api.RR{{TTL: uint32(s[0])}}
	}
	return d
}

// seeds gives f rows of calls to begin with.
func seeds(f *testing.F) {
	f.Add(1, uint64(0), "\x00\x00\x03\x09\x00\x00\x01\x03\x09\x00\x01\x01\x00\x00\x00\x02\x01\x00\x00\x00\x02\x00\x00\x00\x00")
	f.Add(2, uint64(last-5), "\x00\x00\x03\x03\x00\x00\x01\x03\x05\x00\x80\x02\x01\x05\x03\x03\x00\x00\x00\x05")
	f.Add(3, uint64(1<<63-4), "\x00\x00\x05\x09\x01\x00\x01\x05\x03\x01\x84\x02\x02\x07\x02\x01\x00\x00\x00\x04\x00\x03\x01\x08\x07\x00\x00\x01\x09\x04\x03\x00\x00\x00\x09")
	f.Add(64, uint64(1<<32-100), "\x00\x10\x05\xff\x01\x00\x11\xff\x03\x01\x04\x12\x80\x07\x02\x05\x12\x00\x00\x06\x06\x12\x00\x00\x00\x07\x00\x00\x00\xff")
	f.Add(0, uint64(0), "")
	f.Add(math.MinInt, uint64(last), "\x00\x00\x00\x00\x00")
}

// FuzzDeeds holds a model against what the chapter says of it, call by call: P1, P13.1, P13.2.
func FuzzDeeds(f *testing.F) {
	seeds(f)
	f.Fuzz(func(t *testing.T, room int, about uint64, calls string) {
		if (New(room) != nil) != (room >= 1) {
			t.Errorf("New(%d) is nil: %t", room, New(room) == nil)
		}
		room = 1 + int(uint(room)%70)
		l := questions(room + 3)
		b := newPair(room)
		for ; len(calls) >= 5; calls = calls[5:] {
			b.do(t, call(calls, l, about), l)
		}
	})
}

// FuzzPast sees to it that nothing is there, is found, or goes but as the calls before say: P1, P13.3.
func FuzzPast(f *testing.F) {
	seeds(f)
	f.Fuzz(func(t *testing.T, room int, about uint64, calls string) {
		room = 1 + int(uint(room)%9)
		m, h, l := New(room), &past{}, questions(room+3)
		for ; len(calls) >= 5; calls = calls[5:] {
			h.follow(t, m, room, call(calls, l, about), l)
		}
	})
}

func ExampleModel() {
	m := New(1)
	first := api.Entry{Q: api.Question{Name: "\x01a\x00", Type: api.A, Class: api.IN}, Rank: 5, Expire: 9}
	second := api.Entry{Q: api.Question{Name: "\x01b\x00", Type: api.A, Class: api.IN}, Rank: 1, Expire: 20}
	fmt.Println(m.Insert(first, 1), m.Insert(second, 1), m.Full())
	_, found := m.Lookup(first.Q, 8)
	_, later := m.Lookup(first.Q, 9)
	fmt.Println(found, later, m.Has(first.Q))
	fmt.Println(m.Drop(first.Q), m.Insert(second, 1), len(m.Due(20)), m.Len())
	// Output:
	// 0 5 true
	// true false true
	// true 0 1 0
}
