package cache

import (
	"fmt"
	"math"
	"slices"
	"testing"

	"derrick/api"
	"derrick/hash"
	"derrick/shard"
)

const last = math.MaxUint64 // the last time that there is

// numbers are edges of numbers of shards, rooms, sizes and kinds. Some of them may be if only some of their bits are regarded, or if the sign is not.
var numbers = []int{
	0, 1, 2, 3, 4, 5, 6, 15, 16, 17, 18, 31, 32, 33, 63, 64, 65, 127, 128, 129, 255, 256, 257, 258, 260, 512, 513, 65535, 65536, 65537, 65538, 65540,
	1<<31 - 1, 1 << 31, 1<<31 + 1, 1<<32 - 1, 1 << 32, 1<<32 + 1, 1<<32 + 4, 1<<48 + 2, 1<<62 + 3, math.MaxInt - 1, math.MaxInt,
	-1, -2, -3, -4, -5, -15, -16, -17, -64, -255, -256, -65535, -1 << 31, 1 - 1<<32, 3 - 1<<32, math.MinInt, math.MinInt + 1, math.MinInt + 2, math.MinInt + 16,
}

// kinds are those that there are.
var kinds = []int{Insert, Lookup, Evict, Advance}

func q(name string) api.Question {
	return api.Question{Name: "\x01" + name + "\x00", Type: api.A, Class: api.IN}
}

// qs are the questions of names, each of one letter.
func qs(names string) []api.Question {
	var l []api.Question
	for _, name := range names {
		l = append(l, q(string(name)))
	}
	return l
}

func e(name string, rank int, expire uint64) api.Entry {
	return api.Entry{Q: q(name), Rank: rank, Expire: expire}
}

// numbered are questions of which no two are the same.
func numbered(i int) api.Question {
	return api.Question{Name: string([]byte{2, 'a' + byte(i%26), 'a' + byte(i/26%26), 0}), Type: uint16(i % 3), Class: uint16(i / 676)}
}

// home returns a question that belongs to shard i of many: the first one, the next one, and so on.
func home(i, many, number int) api.Question {
	for k := 0; ; k++ {
		if hash.Shard(numbered(k), many) != i {
			continue
		}
		if number == 0 {
			return numbered(k)
		}
		number--
	}
}

func insert(e api.Entry, now uint64) Deed {
	return Deed{Kind: Insert, E: e, Now: now}
}

func lookup(q api.Question, now uint64) Deed {
	return Deed{Kind: Lookup, E: api.Entry{Q: q}, Now: now}
}

func evict(q api.Question, now uint64) Deed {
	return Deed{Kind: Evict, E: api.Entry{Q: q}, Now: now}
}

func advance(now uint64) Deed {
	return Deed{Kind: Advance, Now: now}
}

// sameEntry reports whether two entries are equal.
func sameEntry(a, b api.Entry) bool {
	return a.Q == b.Q && slices.Equal(a.RRs, b.RRs) && a.Rcode == b.Rcode && a.Rank == b.Rank && a.Expire == b.Expire
}

// same reports whether two events are equal.
func same(a, b Event) bool {
	if a.Deed.Kind != b.Deed.Kind || a.Deed.Now != b.Deed.Now || !sameEntry(a.Deed.E, b.Deed.E) {
		return false
	}
	return a.Shard == b.Shard && sameEntry(a.Told, b.Told) && a.Is == b.Is && a.Err == b.Err && slices.Equal(a.Gone, b.Gone)
}

// are sees to it that these are the events that a call returned.
func are(t *testing.T, call string, got []Event, want ...Event) {
	t.Helper()
	if !slices.EqualFunc(got, want, same) {
		t.Errorf("%s = %v, want %v", call, got, want)
	}
}

// done does a deed to its end and sees to it that this came of it.
func done(t *testing.T, c *Cache, d Deed, want ...Event) {
	t.Helper()
	are(t, fmt.Sprintf("Do(%v)", d), c.Do(d), want...)
}

// steppedTo takes steps and sees to it that they tell this.
func steppedTo(t *testing.T, j *Job, want ...bool) {
	t.Helper()
	for i, want := range want {
		if got := j.Step(); got != want {
			t.Errorf("step %d tells %t", i, got)
		}
	}
}

// begun begins a job and takes so many steps, with none of which it is finished.
func begun(t *testing.T, c *Cache, d Deed, steps int) *Job {
	t.Helper()
	j := c.Begin(d)
	if j == nil {
		t.Fatalf("Begin(%v) = nil", d)
	}
	steppedTo(t, j, make([]bool, steps)...)
	return j
}

// have sees to it that these are the questions of a shard, in that order.
func have(t *testing.T, c *Cache, i int, want ...api.Question) {
	t.Helper()
	if got := c.Keys(i); !slices.Equal(got, want) {
		t.Errorf("Keys(%d) = %v, want %v", i, got, want)
	}
}

// made returns a cache with these entries, which are inserted at 0.
func made(t *testing.T, shards, room int, l ...api.Entry) *Cache {
	t.Helper()
	c := New(shards, room, 5)
	if c == nil {
		t.Fatalf("New(%d, %d, 5) = nil", shards, room)
	}
	for _, e := range l {
		done(t, c, insert(e, 0), Event{Deed: insert(e, 0), Shard: hash.Shard(e.Q, shards)})
	}
	return c
}

func TestNumbersOfShards(t *testing.T) { // P14.1, P1
	for _, many := range numbers {
		c := New(many, 2, 5)
		if (c != nil) != (1 <= many && many <= 16) {
			t.Errorf("New(%d, 2, 5) is nil: %t", many, c == nil)
		}
		if c == nil {
			continue
		}
		if c.Len() != 0 || len(c.History()) != 0 || c.Stats() != (Stats{}) {
			t.Errorf("New(%d, 2, 5) has %d entries, %v, %v", many, c.Len(), c.History(), c.Stats())
		}
		var want []Event
		for i := range many {
			have(t, c, i)
			want = append(want, Event{Deed: advance(9), Shard: i})
		}
		done(t, c, advance(9), want...)
	}
}

func TestRoomsAndSizesAreThoseOfAShard(t *testing.T) { // P14.1, P1
	for _, many := range []int{1, 2, 16} {
		for _, room := range numbers {
			for _, size := range numbers {
				if is, want := New(many, room, size) != nil, shard.New(room, size) != nil; is != want {
					t.Errorf("New(%d, %d, %d) is a cache: %t", many, room, size, is)
				}
			}
		}
	}
	for _, many := range []int{0, 17, -1, math.MinInt, math.MaxInt} {
		if New(many, 0, 0) != nil || New(many, 64, 256) != nil {
			t.Errorf("New of %d shards is a cache", many)
		}
	}
}

func TestEachShardHasRoomOfItsOwn(t *testing.T) { // P14.1
	for _, room := range []int{1, 2, 3, 64} {
		for _, many := range []int{1, 2, 3} {
			c := made(t, many, room)
			for i := range many {
				for k := range room {
					x := insert(api.Entry{Q: home(i, many, k), Expire: 9}, 1)
					done(t, c, x, Event{Deed: x, Shard: i})
				}
			}
			if c.Len() != many*room {
				t.Errorf("%d shards with room for %d have %d entries", many, room, c.Len())
			}
			for i := range many {
				x := insert(api.Entry{Q: home(i, many, room), Expire: 9}, 1)
				done(t, c, x, Event{Deed: x, Shard: i, Gone: []api.Question{home(i, many, 0)}})
			}
			if c.Len() != many*room {
				t.Errorf("%d full shards with room for %d have then %d entries", many, room, c.Len())
			}
		}
	}
}

func TestKindsOfDeeds(t *testing.T) { // P14.1, P1
	if Insert != 1 || Lookup != 2 || Evict != 3 || Advance != 4 {
		t.Error(Insert, Lookup, Evict, Advance)
	}
	for _, kind := range numbers {
		c := made(t, 3, 2, e("a", 3, 9))
		var none *Cache
		d := Deed{Kind: kind, E: e("b", 3, 9)}
		j := c.Begin(d)
		if (j != nil) != slices.Contains(kinds, kind) || none.Begin(d) != nil {
			t.Errorf("Begin of kind %d is nil: %t, and %t for a nil cache", kind, j == nil, none.Begin(d) == nil)
		}
		if l := c.Do(d); (len(l) > 0) != slices.Contains(kinds, kind) {
			t.Errorf("Do of kind %d = %v", kind, l)
		}
		if j == nil && (len(c.History()) != 1 || c.Len() != 1 || j.Step() != true || len(j.Events()) != 0) {
			t.Errorf("kind %d did something", kind)
		}
	}
}

// ofEachKind are deeds of the first questions of a shard, at 1.
func ofEachKind(i, many int) []Deed {
	x := api.Entry{Q: home(i, many, 0), Rank: 3, Expire: 9}
	return []Deed{insert(x, 1), lookup(x.Q, 1), evict(x.Q, 1), advance(1)}
}

func TestABegunJobHasTakenNoStep(t *testing.T) { // P14.1
	for _, many := range []int{1, 2, 16} {
		for i := range many {
			for _, d := range ofEachKind(i, many) {
				c := made(t, many, 2)
				j := c.Begin(d)
				if l := c.History(); len(l) != 0 || len(j.Events()) != 0 || c.Len() != 0 {
					t.Errorf("Begin(%v) did %v", d, l)
				}
				if l := c.Do(advance(0)); len(l) != many {
					t.Errorf("Begin(%v) holds a lock: %v", d, l)
				}
				if len(j.Events()) != 0 || j.Step() {
					t.Errorf("Begin(%v) took a step", d)
				}
			}
		}
	}
}

func TestThreeStepsAtAShard(t *testing.T) { // P14.1, P14.2
	for many := 1; many <= 16; many++ {
		for i := range many {
			for _, d := range ofEachKind(i, many)[:3] {
				c := made(t, many, 2)
				want := Event{Deed: d, Shard: i}
				j := begun(t, c, d, 1)
				are(t, "Events", j.Events())
				are(t, "History", c.History())
				if c.Len() != 0 {
					t.Errorf("%v is done at its first step", d)
				}
				steppedTo(t, j, false)
				are(t, "Events", j.Events(), want)
				are(t, "History", c.History(), want)
				steppedTo(t, j, true)
				are(t, "Events", j.Events(), want)
				are(t, "History", c.History(), want)
			}
		}
	}
}

func TestThreeStepsOfAnAdvanceAtEachShard(t *testing.T) { // P14.1, P14.2
	for many := 1; many <= 16; many++ {
		var l []api.Entry
		for i := range many {
			l = append(l, api.Entry{Q: home(i, many, 0), Expire: 9})
		}
		c := made(t, many, 2, l...)
		j := c.Begin(advance(9))
		var want []Event
		for i := range many {
			for step := range 3 {
				if got := j.Step(); got != (i == many-1 && step == 2) {
					t.Errorf("of %d shards, step %d at shard %d tells %t", many, step, i, got)
				}
				if step == 1 {
					want = append(want, Event{Deed: advance(9), Shard: i, Gone: []api.Question{home(i, many, 0)}})
				}
				are(t, "Events", j.Events(), want...)
				are(t, "History", c.History()[many:], want...)
				if c.Len() != many-len(want) {
					t.Errorf("of %d shards, there are %d entries behind step %d at shard %d", many, c.Len(), step, i)
				}
			}
		}
		steppedTo(t, j, true, true)
	}
}

func TestAStepOfAFinishedJobDoesNothing(t *testing.T) { // P14.1
	for _, many := range []int{1, 3, 16} {
		for i := range many {
			for _, d := range ofEachKind(i, many) {
				c := made(t, many, 2)
				j := c.Begin(d)
				for !j.Step() {
				}
				events := j.Events()
				// Another job takes the lock, does its deed, and must not lose the lock to j.
				other := begun(t, c, insert(api.Entry{Q: home(i, many, 1), Expire: 9}, 1), 2)
				history, were := c.History(), c.Len()
				steppedTo(t, j, true, true, true, true, true, true)
				are(t, "Events", j.Events(), events...)
				are(t, "History", c.History(), history...)
				if l := c.Do(lookup(home(i, many, 0), 1)); len(l) != 0 || c.Len() != were {
					t.Errorf("a step of finished %v released the lock of another job", d)
				}
				steppedTo(t, other, true)
				if l := c.Do(advance(0)); len(l) != many {
					t.Errorf("a lock is held behind finished jobs: %v", l)
				}
				steppedTo(t, j, true)
			}
		}
	}
}

func TestAStepDoesNothingIfAnotherJobHoldsTheLock(t *testing.T) { // P14.1, P14.2, P14.4
	for _, many := range []int{1, 2, 16} {
		for i := range many {
			for _, first := range ofEachKind(i, many) {
				for _, second := range ofEachKind(i, many) {
					c := made(t, many, 2)
					before := 0
					if first.Kind == Advance {
						before = 3 * i
					}
					j := begun(t, c, first, before+1)
					k := c.Begin(second)
					if second.Kind == Advance {
						steppedTo(t, k, make([]bool, 3*i)...)
					}
					waits := func(step string) {
						events, history, were := k.Events(), c.History(), c.Len()
						steppedTo(t, k, make([]bool, 50)...)
						are(t, "Events", k.Events(), events...)
						are(t, "History", c.History(), history...)
						if c.Len() != were {
							t.Errorf("%v does something %s of %v", second, step, first)
						}
					}
					waits("behind the first step")
					j.Step()
					waits("behind the second step")
					j.Step()
					held := len(k.Events())
					k.Step()
					if len(k.Events()) != held {
						t.Errorf("%v did its deed before it had the lock", second)
					}
					k.Step()
					if l := k.Events(); len(l) != held+1 || l[held].Shard != i {
						t.Errorf("%v does not go on behind %v: %v", second, first, l)
					}
				}
			}
		}
	}
}

func TestTheExample(t *testing.T) { // P14.4
	c := made(t, 1, 2)
	x := e("a", 3, 9)
	j, k := c.Begin(insert(x, 1)), c.Begin(lookup(q("a"), 1))
	steppedTo(t, j, false)
	steppedTo(t, k, false, false, false, false)
	are(t, "Events", k.Events())
	steppedTo(t, j, false)
	steppedTo(t, k, false, false, false)
	are(t, "Events", k.Events())
	steppedTo(t, j, true)
	steppedTo(t, k, false, false, true)
	are(t, "Events", k.Events(), Event{Deed: lookup(q("a"), 1), Told: x, Is: true})
}

func TestTheShardOfADeed(t *testing.T) { // P14.2
	for many := 1; many <= 16; many++ {
		c := New(many, 64, 5)
		for _, name := range []string{"", "\x00", "\x01a\x00", "\x01A\x00", "\x03www\x02ab\x00", "not a name", "\xff\xfe"} {
			for _, kind := range []uint16{0, api.A, api.NS, 255, 256, 65535} {
				for _, class := range []uint16{0, api.IN, 256, 65535} {
					x := api.Entry{Q: api.Question{Name: name, Type: kind, Class: class}, Rank: 3, Expire: 9}
					at := hash.Shard(x.Q, many)
					was := len(c.Keys(at))
					for _, d := range []Deed{insert(x, 1), lookup(x.Q, 1), evict(x.Q, 1)} {
						l := c.Do(d)
						if len(l) != 1 || l[0].Shard != at {
							t.Errorf("of %d shards, Do(%v) = %v, want shard %d", many, d, l, at)
						}
						is := slices.Contains(c.Keys(at), x.Q)
						if is != (d.Kind != Evict) || d.Kind == Insert && len(c.Keys(at)) != was+1 {
							t.Errorf("of %d shards, shard %d has %v: %t, behind kind %d", many, at, x.Q, is, d.Kind)
						}
					}
				}
			}
		}
	}
}

func TestTheShardIsThatOfTheQuestionAlone(t *testing.T) { // P14.2
	for i := range 5 {
		a, b := home(i, 5, 0), home(i, 5, 1)
		c := made(t, 5, 9)
		for k, x := range []api.Entry{{Q: a, Expire: 9}, {Q: a, Expire: last, Rank: 5}, {Q: b, RRs: []api.RR{{Name: home((i+1)%5, 5, 0).Name}}, Rcode: 3, Expire: 7}} {
			if l := c.Do(insert(x, uint64(k))); len(l) != 1 || l[0].Shard != i {
				t.Errorf("Do(%v) = %v", x, l)
			}
		}
		have(t, c, i, a, b)
	}
}

func TestAnAdvanceIsDoneAtAllShardsInAscendingOrder(t *testing.T) { // P14.2
	for many := 1; many <= 16; many++ {
		for _, x := range []api.Entry{{}, {Q: home(many-1, many, 0)}, {Q: home(0, many, 0), Rank: 3, Expire: 9, RRs: []api.RR{{TTL: 1}}}} {
			c := made(t, many, 2)
			d := Deed{Kind: Advance, E: x, Now: 7}
			var want []Event
			for i := range many {
				want = append(want, Event{Deed: d, Shard: i})
			}
			done(t, c, d, want...)
			are(t, "History", c.History(), want...)
		}
	}
}

func TestTheEventOfEachKind(t *testing.T) { // P14.2, R1
	whole := api.Entry{Q: q("a"), RRs: []api.RR{{Name: "\x01a\x00", Type: 1, Class: 1, TTL: 5, Data: "\x01\x02\x03\x04"}}, Rcode: 3, Rank: 4, Expire: 10}
	lower := e("a", 3, 20)
	type pair struct {
		d    Deed
		want Event
	}
	c := made(t, 1, 2)
	for _, x := range []pair{
		{lookup(q("a"), 1), Event{}},
		{evict(q("a"), 1), Event{}},
		{advance(1), Event{}},
		{insert(whole, 10), Event{Err: api.ErrNone}},
		{insert(whole, last), Event{Err: api.ErrNone}},
		{insert(whole, 1), Event{}},
		{insert(lower, 9), Event{Err: api.ErrLow}},
		{insert(lower, 20), Event{Err: api.ErrNone}},
		{lookup(q("a"), 9), Event{Told: whole, Is: true}},
		{lookup(q("a"), 10), Event{}},
		{lookup(q("b"), 9), Event{}},
		{insert(e("b", 3, 15), 2), Event{}},
		{insert(e("c", 3, 5), 2), Event{Gone: qs("b")}}, // a was touched
		{insert(e("d", 3, 30), 15), Event{Gone: qs("ca")}},
		{insert(e("e", 3, 30), 15), Event{}},
		{lookup(q("a"), 0), Event{}},
		{evict(q("a"), 0), Event{}},
		{lookup(q("d"), 16), Event{Told: e("d", 3, 30), Is: true}},
		{evict(q("d"), 40), Event{Is: true, Gone: qs("d")}},
		{evict(q("d"), 40), Event{}},
		{insert(e("a", 3, 25), 16), Event{}},
		{advance(24), Event{}},
		{advance(30), Event{Gone: qs("ae")}},
		{advance(30), Event{}},
		{advance(last), Event{}},
	} {
		x.want.Deed = x.d
		done(t, c, x.d, x.want)
		l := c.History()
		are(t, "the last of History", l[len(l)-1:], x.want)
	}
}

func TestTheDeedOfAnEventIsThatOfTheJob(t *testing.T) { // P14.2, R5
	for _, kind := range kinds {
		for _, x := range []api.Entry{
			{},
			{Q: api.Question{Name: "x", Type: 65535, Class: 65535}, RRs: []api.RR{{}, {TTL: 1<<32 - 1, Data: "d"}}, Rcode: -1, Rank: math.MinInt, Expire: last},
			{RRs: []api.RR{}, Rcode: math.MaxInt, Rank: math.MaxInt},
		} {
			for _, now := range []uint64{0, 1, 1 << 32, 1 << 63, last} {
				d := Deed{Kind: kind, E: x, Now: now}
				c := made(t, 2, 2)
				l := c.Do(d)
				if len(l) == 0 || slices.ContainsFunc(l, func(e Event) bool { return !same(Event{Deed: e.Deed}, Event{Deed: d}) }) {
					t.Errorf("Do(%v) = %v", d, l)
				}
			}
		}
	}
}

func TestEventsAreInTheOrderOfShards(t *testing.T) { // P14.2
	c := made(t, 3, 2)
	j := begun(t, c, advance(5), 8)
	for i := range 3 {
		// The history has others between those of j.
		c.Do(lookup(home(i, 3, 0), 1))
	}
	steppedTo(t, j, true)
	are(t, "Events", j.Events(), Event{Deed: advance(5)}, Event{Deed: advance(5), Shard: 1}, Event{Deed: advance(5), Shard: 2})
}

func TestHistoryIsInTheOrderInWhichThingsHappened(t *testing.T) { // P14.2, P14.4
	a, b := api.Entry{Q: home(0, 2, 0), Expire: 9}, api.Entry{Q: home(1, 2, 0), Expire: 9}
	c := made(t, 2, 2)
	up, in, find, out := c.Begin(advance(9)), c.Begin(insert(b, 1)), c.Begin(lookup(a.Q, 2)), c.Begin(insert(a, 3))
	steppedTo(t, out, false, false, true)
	steppedTo(t, up, false)
	steppedTo(t, in, false)
	steppedTo(t, find, false)
	steppedTo(t, up, false)
	steppedTo(t, in, false)
	steppedTo(t, up, false, false)
	steppedTo(t, find, false, false)
	steppedTo(t, in, true)
	steppedTo(t, up, false, false, true)
	steppedTo(t, find, true)
	put, first, kept, miss, second := Event{Deed: insert(a, 3)}, Event{Deed: advance(9), Gone: []api.Question{a.Q}}, Event{Deed: insert(b, 1), Shard: 1}, Event{Deed: lookup(a.Q, 2)}, Event{Deed: advance(9), Shard: 1, Gone: []api.Question{b.Q}}
	are(t, "History", c.History(), put, first, kept, miss, second)
	are(t, "Events", up.Events(), first, second)
	are(t, "Events", in.Events(), kept)
	are(t, "Events", find.Events(), miss)
	are(t, "Events", out.Events(), put)
}

// changes reports what of a cache is not as it was.
func changes(t *testing.T, c *Cache, history []Event, keys [][]api.Question) {
	t.Helper()
	are(t, "History", c.History(), history...)
	for i, l := range keys {
		have(t, c, i, l...)
	}
}

func TestDoWhereALockIsHeld(t *testing.T) { // P14.2, P14.4
	for _, many := range []int{1, 2, 3, 16} {
		for held := range many {
			for taken := 1; taken <= 2; taken++ {
				for i := range many {
					for _, d := range ofEachKind(i, many) {
						c := made(t, many, 2, api.Entry{Q: home(i, many, 0), Rank: 1, Expire: 1})
						j := begun(t, c, lookup(home(held, many, 5), 0), taken)
						if d.Kind != Advance && i != held {
							if l := c.Do(d); len(l) != 1 || l[0].Shard != i {
								t.Errorf("while shard %d is held, Do(%v) = %v", held, d, l)
							}
							continue
						}
						history, keys := c.History(), [][]api.Question{}
						for i := range many {
							keys = append(keys, c.Keys(i))
						}
						done(t, c, d)
						changes(t, c, history, keys)
						for k := range many {
							if l := c.Do(lookup(home(k, many, 6), 0)); len(l) == 0 && k != held {
								t.Errorf("while shard %d is held, Do(%v) holds shard %d", held, d, k)
							}
						}
						for !j.Step() {
						}
						if l := c.Do(d); len(l) == 0 {
							t.Errorf("when shard %d is free again, Do(%v) = %v", held, d, l)
						}
					}
				}
			}
		}
	}
}

func TestDoHoldsNoLockBehindIt(t *testing.T) { // P14.2
	for _, many := range []int{1, 2, 16} {
		c := made(t, many, 2)
		for i := range many {
			for _, d := range ofEachKind(i, many) {
				c.Do(d)
				if l := c.Do(advance(0)); len(l) != many {
					t.Errorf("behind Do(%v), Do of an Advance = %v", d, l)
				}
			}
		}
	}
}

func TestDoWhileAJobIsBetweenItsShards(t *testing.T) { // P14.2, P14.4
	const many = 4
	for taken := range 3*many + 1 {
		c := made(t, many, 2)
		j := c.Begin(advance(5))
		for range taken {
			j.Step()
		}
		for i := range many {
			held := taken%3 != 0 && taken/3 == i
			if l := c.Do(lookup(home(i, many, 0), 1)); (len(l) == 0) != held {
				t.Errorf("behind step %d of an Advance, a Lookup at shard %d is %v", taken, i, l)
			}
		}
		if l := c.Do(advance(6)); (len(l) == 0) != (taken%3 != 0) {
			t.Errorf("behind step %d of an Advance, another one is %v", taken, l)
		}
	}
}

func TestAWaitingJobHoldsNothing(t *testing.T) { // P14.2
	c := made(t, 2, 2)
	d := insert(api.Entry{Q: home(1, 2, 0), Expire: 9}, 1)
	j := begun(t, c, d, 1)
	k := begun(t, c, advance(9), 3) // behind shard 0
	steppedTo(t, k, false, false)
	steppedTo(t, j, false, true)
	if l := c.Do(advance(2)); len(l) != 2 {
		t.Errorf("while a job waits for nothing more, Do of an Advance = %v", l)
	}
	steppedTo(t, k, false, false, true)
	are(t, "Events", k.Events(), Event{Deed: advance(9)}, Event{Deed: advance(9), Shard: 1, Gone: []api.Question{d.E.Q}})
}

func TestStats(t *testing.T) { // P14.3
	c := made(t, 1, 2)
	for _, x := range []struct {
		d    Deed
		want Stats
	}{
		{lookup(q("a"), 1), Stats{Misses: 1}},
		{evict(q("a"), 1), Stats{Misses: 1}},
		{advance(1), Stats{Misses: 1}},
		{insert(e("a", 4, 5), 5), Stats{Misses: 1}},
		{insert(e("a", 4, 5), 1), Stats{Misses: 1, Inserts: 1}},
		{insert(e("a", 3, 9), 1), Stats{Misses: 1, Inserts: 1, Lows: 1}},
		{insert(e("a", 3, 9), 9), Stats{Misses: 1, Inserts: 1, Lows: 1}},
		{insert(e("a", 4, 9), 1), Stats{Misses: 1, Inserts: 2, Lows: 1}},
		{lookup(q("a"), 8), Stats{Misses: 1, Inserts: 2, Lows: 1, Hits: 1}},
		{lookup(q("a"), 8), Stats{Misses: 1, Inserts: 2, Lows: 1, Hits: 2}},
		{lookup(q("a"), 9), Stats{Misses: 2, Inserts: 2, Lows: 1, Hits: 2}},
		{lookup(q("b"), 8), Stats{Misses: 3, Inserts: 2, Lows: 1, Hits: 2}},
		{insert(e("b", 4, 9), 1), Stats{Misses: 3, Inserts: 3, Lows: 1, Hits: 2}},
		{insert(e("c", 4, 9), 1), Stats{Misses: 3, Inserts: 4, Lows: 1, Hits: 2, Gone: 1}},
		{insert(e("d", 4, 20), 9), Stats{Misses: 3, Inserts: 5, Lows: 1, Hits: 2, Gone: 3}},
		{evict(q("d"), 0), Stats{Misses: 3, Inserts: 5, Lows: 1, Hits: 2, Gone: 4}},
		{evict(q("d"), 0), Stats{Misses: 3, Inserts: 5, Lows: 1, Hits: 2, Gone: 4}},
		{insert(e("d", 4, 20), 9), Stats{Misses: 3, Inserts: 6, Lows: 1, Hits: 2, Gone: 4}},
		{insert(e("e", 4, 20), 9), Stats{Misses: 3, Inserts: 7, Lows: 1, Hits: 2, Gone: 4}},
		{insert(e("e", 3, 30), 9), Stats{Misses: 3, Inserts: 7, Lows: 2, Hits: 2, Gone: 4}},
		{advance(19), Stats{Misses: 3, Inserts: 7, Lows: 2, Hits: 2, Gone: 4}},
		{advance(20), Stats{Misses: 3, Inserts: 7, Lows: 2, Hits: 2, Gone: 6}},
		{Deed{Kind: 5}, Stats{Misses: 3, Inserts: 7, Lows: 2, Hits: 2, Gone: 6}},
	} {
		c.Do(x.d)
		if got := c.Stats(); got != x.want {
			t.Errorf("behind %v, Stats() = %v, want %v", x.d, got, x.want)
		}
	}
}

func TestStatsOfAllShards(t *testing.T) { // P14.3
	const many = 5
	c := made(t, many, 1)
	var want Stats
	for i := range many {
		x := api.Entry{Q: home(i, many, 0), Rank: 4, Expire: 9}
		c.Do(insert(x, 1))
		c.Do(lookup(x.Q, 1))
		c.Do(lookup(home(i, many, 1), 1))
		x.Rank = 3
		c.Do(insert(x, 1))
		want.Inserts, want.Hits, want.Misses, want.Lows = i+1, i+1, i+1, i+1
		if got := c.Stats(); got != want {
			t.Errorf("Stats() = %v, want %v", got, want)
		}
	}
	c.Do(advance(9))
	want.Gone = many
	if got := c.Stats(); got != want {
		t.Errorf("Stats() = %v, want %v", got, want)
	}
}

func TestStatsCountWhatHasHappened(t *testing.T) { // P14.3
	c := made(t, 1, 2)
	j := c.Begin(lookup(q("a"), 1))
	for i, want := range []Stats{{}, {Misses: 1}, {Misses: 1}, {Misses: 1}} {
		j.Step()
		if got := c.Stats(); got != want {
			t.Errorf("behind step %d, Stats() = %v, want %v", i, got, want)
		}
	}
}

func TestLenAndKeys(t *testing.T) { // P14.3
	for many := 1; many <= 16; many++ {
		c := made(t, many, 3)
		sum := 0
		for i := range many {
			var want []api.Question
			for k := range i % 4 {
				x := api.Entry{Q: home(i, many, k), Expire: 9}
				c.Do(insert(x, 1))
				want = append(want, x.Q)
				sum++
			}
			have(t, c, i, want...)
			if c.Len() != sum {
				t.Errorf("Len() = %d, want %d", c.Len(), sum)
			}
		}
		for _, i := range numbers {
			if l := c.Keys(i); (i < 0 || i >= many) && len(l) != 0 {
				t.Errorf("of %d shards, Keys(%d) = %v", many, i, l)
			}
		}
	}
}

func TestLenHasThoseThatAreNotLive(t *testing.T) { // P14.3
	c := made(t, 1, 3, e("a", 3, 9), e("b", 3, 5))
	c.Do(lookup(q("a"), 100))
	if c.Len() != 2 {
		t.Errorf("Len() = %d", c.Len())
	}
	have(t, c, 0, qs("ab")...)
}

func TestKeysAreInTheOrderOfSlots(t *testing.T) { // P14.3
	c := made(t, 1, 3, e("c", 3, 9), e("a", 3, 9), e("b", 3, 9))
	have(t, c, 0, qs("cab")...)
	c.Do(evict(q("c"), 0))
	c.Do(insert(e("d", 3, 9), 0))
	have(t, c, 0, qs("dab")...)
}

func TestNilAndZeroCaches(t *testing.T) { // P14.1, P14.3, P1
	for _, c := range []*Cache{nil, {}} {
		for _, kind := range numbers {
			d := Deed{Kind: kind, E: e("a", 3, 9)}
			if c.Begin(d) != nil || len(c.Do(d)) != 0 {
				t.Errorf("a nil or zero cache did kind %d", kind)
			}
		}
		for _, i := range numbers {
			have(t, c, i)
		}
		if len(c.History()) != 0 || c.Stats() != (Stats{}) || c.Len() != 0 {
			t.Error("a nil or zero cache has something")
		}
	}
}

func TestNilAndZeroJobs(t *testing.T) { // P14.1, P14.3, P1
	for _, j := range []*Job{nil, {}} {
		steppedTo(t, j, true, true, true)
		are(t, "Events", j.Events())
	}
}

func TestTheDeedIsLeftAndNotKept(t *testing.T) { // R3
	for _, kind := range kinds {
		for taken := range 4 {
			records := []api.RR{{Name: "\x01a\x00", TTL: 1}, {TTL: 2}, {TTL: 3}}
			d := Deed{Kind: kind, E: api.Entry{Q: q("a"), RRs: records[:2], Expire: 9}, Now: 1}
			c := made(t, 1, 2)
			j := begun(t, c, d, min(taken, 2))
			if taken == 3 {
				steppedTo(t, j, true)
			}
			if records[0].TTL != 1 || records[1].TTL != 2 || records[2].TTL != 3 {
				t.Errorf("kind %d changed its records to %v", kind, records)
			}
			records[0], records[1] = api.RR{TTL: 7}, api.RR{TTL: 8}
			for !j.Step() {
			}
			want := Deed{Kind: kind, E: api.Entry{Q: q("a"), RRs: []api.RR{{Name: "\x01a\x00", TTL: 1}, {TTL: 2}}, Expire: 9}, Now: 1}
			are(t, "Events", j.Events(), Event{Deed: want})
			are(t, "History", c.History(), Event{Deed: want})
			if kind == Insert {
				done(t, c, lookup(q("a"), 1), Event{Deed: lookup(q("a"), 1), Told: want.E, Is: true})
			}
		}
	}
}

// spoil changes all that events lead to, and appends to it.
func spoil(l []Event) {
	for i := range l {
		for k := range l[i].Deed.E.RRs {
			l[i].Deed.E.RRs[k].TTL += 100
		}
		for k := range l[i].Told.RRs {
			l[i].Told.RRs[k].TTL += 200
		}
		for k := range l[i].Gone {
			l[i].Gone[k].Type += 300
		}
		_ = append(l[i].Deed.E.RRs[:0], api.RR{TTL: 9})
		_ = append(l[i].Told.RRs[:0], api.RR{TTL: 9})
		_ = append(l[i].Gone[:0], api.Question{Type: 9})
		l[i].Shard, l[i].Is, l[i].Err = 99, !l[i].Is, 99
	}
	_ = append(l[:0], Event{Shard: 98})
}

func TestTheResultsAreNotKept(t *testing.T) { // R3
	records := []api.RR{{TTL: 1}, {TTL: 2}}
	x := api.Entry{Q: q("a"), RRs: records, Expire: 9}
	y := Deed{Kind: Lookup, E: x, Now: 1}
	z := Deed{Kind: Evict, E: x, Now: 1}
	c := made(t, 1, 1, e("b", 3, 5))
	in, find, out, up := c.Begin(insert(x, 1)), c.Begin(y), c.Begin(z), c.Begin(advance(9))
	want := []Event{{Deed: insert(e("b", 3, 5), 0)}, {Deed: insert(x, 1), Gone: qs("b")}, {Deed: y, Told: x, Is: true}, {Deed: z, Is: true, Gone: qs("a")}, {Deed: insert(x, 2)}, {Deed: advance(9), Gone: qs("a")}}
	for i, j := range []*Job{in, find, out, nil, up} {
		if j == nil {
			spoil(c.Do(insert(x, 2)))
			continue
		}
		for !j.Step() {
			spoil(j.Events())
			spoil(c.History())
			_ = append(c.Keys(0)[:0], q("z"))
		}
		spoil(j.Events())
		are(t, "Events", j.Events(), want[i+1])
		are(t, "History", c.History(), want[:i+2]...)
	}
	have(t, c, 0)
	if records[0].TTL != 1 || records[1].TTL != 2 {
		t.Errorf("the records changed to %v", records)
	}
}

func TestTheResultsShareNothing(t *testing.T) { // R3
	x := api.Entry{Q: q("a"), RRs: []api.RR{{TTL: 1}}, Expire: 9}
	up, find := Deed{Kind: Advance, E: x, Now: 1}, Deed{Kind: Lookup, E: x, Now: 1}
	c := made(t, 3, 1, x)
	j := c.Begin(up)
	for !j.Step() {
	}
	for _, get := range []func() []Event{j.Events, func() []Event { return c.Do(up) }, func() []Event { return c.Do(find) }, c.History} {
		l, other := get(), get()
		for i := range l {
			l[i].Deed.E.RRs[0].TTL = uint32(100 + i)
		}
		for i := range l {
			if l[i].Deed.E.RRs[0].TTL != uint32(100+i) {
				t.Errorf("event %d of %d shares its records with another one", i, len(l))
			}
			if l[i].Is && l[i].Told.RRs[0].TTL != 1 {
				t.Errorf("event %d of %d shares the records of its deed", i, len(l))
			}
		}
		spoil(l)
		for i, e := range other {
			if e.Deed.E.RRs[0].TTL != 1 || e.Is && e.Told.RRs[0].TTL != 1 {
				t.Errorf("event %d of %d shares its records with what was returned before", i, len(l))
			}
		}
	}
}

func TestWhatKeysReturnIsNotKept(t *testing.T) { // R3
	c := made(t, 1, 3, e("a", 3, 9), e("b", 3, 9))
	l := c.Keys(0)
	l[0], l[1] = q("x"), q("y")
	_ = append(l[:1], q("z"))
	have(t, c, 0, qs("ab")...)
	done(t, c, advance(9), Event{Deed: advance(9), Gone: qs("ab")})
	if l[0] != q("x") || l[1] != q("z") {
		t.Errorf("what Keys returned before changed to %v", l)
	}
}

func TestCachesAreNotShared(t *testing.T) { // R3, R4
	a, b := made(t, 2, 2, e("a", 3, 9)), made(t, 2, 2, e("a", 3, 9))
	at := hash.Shard(q("a"), 2)
	j := begun(t, a, lookup(q("a"), 1), 1)
	done(t, b, evict(q("a"), 1), Event{Deed: evict(q("a"), 1), Shard: at, Is: true, Gone: qs("a")})
	steppedTo(t, j, false, true)
	are(t, "Events", j.Events(), Event{Deed: lookup(q("a"), 1), Shard: at, Told: e("a", 3, 9), Is: true})
	have(t, a, at, q("a"))
	have(t, b, at)
	if a.Stats() != (Stats{Inserts: 1, Hits: 1}) || b.Stats() != (Stats{Inserts: 1, Gone: 1}) {
		t.Error(a.Stats(), b.Stats())
	}
}
