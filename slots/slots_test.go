package slots

import (
	"fmt"
	"maps"
	"math"
	"slices"
	"testing"

	"derrick/api"
)

// never are numbers that there may not be of slots, and so no slots either. Some may be if only some of their bits are regarded, or if the sign is not.
var never = []int{
	65, 66, 127, 128, 129, 255, 256, 257, 258, 320, 65535, 65536, 65537, 65540,
	1<<31 - 1, 1 << 31, 1<<31 + 1, 1<<32 - 1, 1 << 32, 1<<32 + 1, 1<<32 + 64, 1<<48 + 2, math.MaxInt - 1, math.MaxInt,
	-1, -2, -3, -63, -64, -65, -255, -256, -65535, -1 << 31, 1 - 1<<32, 3 - 1<<32, math.MinInt, math.MinInt + 1, math.MinInt + 2, math.MinInt + 64,
}

// values of slots, by their numbers.
type values = map[int]int

// are sees to it that there are so many slots, and that these and no others have values.
func are(t *testing.T, s *Slots[int], many int, want values) {
	t.Helper()
	all := slices.Sorted(maps.Keys(want))
	if got := s.All(); !slices.Equal(got, all) {
		t.Errorf("All() = %v, want %v", got, all)
	}
	if got := s.Len(); got != len(want) {
		t.Errorf("Len() = %d, want %d", got, len(want))
	}
	if got := s.Cap(); got != many {
		t.Errorf("Cap() = %d, want %d", got, many)
	}
	for i := -2; i < many+2; i++ {
		x, ok := want[i]
		get(t, s, i, x, ok)
	}
}

func get[T comparable](t *testing.T, s *Slots[T], i int, want T, ok bool) {
	t.Helper()
	if x, has := s.Get(i); x != want || has != ok {
		t.Errorf("Get(%d) = %v, %t, want %v, %t", i, x, has, want, ok)
	}
}

// put sees to it that x is stored in that slot.
func put[T any](t *testing.T, s *Slots[T], x T, want int) {
	t.Helper()
	if i, err := s.Put(x); i != want || err != api.OK {
		t.Errorf("Put(%v) = %d, %d, want %d, %d", x, i, err, want, api.OK)
	}
}

func full[T any](t *testing.T, s *Slots[T], x T) {
	t.Helper()
	if i, err := s.Put(x); i != 0 || err != api.ErrFull {
		t.Errorf("Put(%v) = %d, %d, want 0, %d", x, i, err, api.ErrFull)
	}
}

func set[T any](t *testing.T, s *Slots[T], i int, x T, want bool) {
	t.Helper()
	if got := s.Set(i, x); got != want {
		t.Errorf("Set(%d, %v) = %t", i, x, got)
	}
}

// touch touches slots that are used.
func touch[T any](t *testing.T, s *Slots[T], l ...int) {
	t.Helper()
	for _, i := range l {
		if !s.Touch(i) {
			t.Errorf("Touch(%d) = false", i)
		}
	}
}

// free frees slots that are used.
func free[T any](t *testing.T, s *Slots[T], l ...int) {
	t.Helper()
	for _, i := range l {
		if !s.Free(i) {
			t.Errorf("Free(%d) = false", i)
		}
	}
}

// victims sees to it that the next victims are these.
func victims[T any](t *testing.T, s *Slots[T], want ...int) {
	t.Helper()
	for k, w := range want {
		if i, ok := s.Victim(); i != w || !ok {
			t.Fatalf("Victim() = %d, %t, want %d, true, at place %d of %v", i, ok, w, k, want)
		}
	}
}

func noVictim[T any](t *testing.T, s *Slots[T]) {
	t.Helper()
	if i, ok := s.Victim(); i != 0 || ok {
		t.Errorf("Victim() = %d, %t, want 0, false", i, ok)
	}
}

// missing sees to it that there is no value in slot i, for any function.
func missing(t *testing.T, s *Slots[int], i int) {
	t.Helper()
	get(t, s, i, 0, false)
	set(t, s, i, 999, false)
	if s.Touch(i) {
		t.Errorf("Touch(%d) = true", i)
	}
	if s.Free(i) {
		t.Errorf("Free(%d) = true", i)
	}
}

// filled returns so many slots, each with ten times its number.
func filled(t *testing.T, many int) *Slots[int] {
	t.Helper()
	s := New[int](many)
	for i := range many {
		put(t, s, 10*i, i)
	}
	return s
}

// tens are the values of filled.
func tens(many int) values {
	want := values{}
	for i := range many {
		want[i] = 10 * i
	}
	return want
}

// turn are all slots in turn, from one on.
func turn(many, from int) []int {
	var l []int
	for i := range many {
		l = append(l, (from+i)%many)
	}
	return l
}

func TestNew(t *testing.T) { // P10.1
	for many := 1; many <= 64; many++ {
		s := New[int](many)
		if s == nil {
			t.Fatalf("New(%d) = nil", many)
		}
		are(t, s, many, nil)
		noVictim(t, s)
		for i := range many {
			put(t, s, i, i)
		}
		full(t, s, 1)
		victims(t, s, turn(many, 0)...) // so the hand was at slot 0
	}
}

func TestNewIfThereMayNotBeSoMany(t *testing.T) { // P10.1, P1
	for _, many := range append([]int{0}, never...) {
		if New[int](many) != nil || New[string](many) != nil || New[struct{}](many) != nil {
			t.Errorf("New(%d) is not nil", many)
		}
	}
	for many := -1000; many <= 1000; many++ {
		if (New[int](many) != nil) != (many >= 1 && many <= 64) {
			t.Errorf("New(%d) is nil: %t", many, New[int](many) == nil)
		}
	}
}

func TestPutIntoTheLowestFreeSlot(t *testing.T) { // P10.1
	s := New[int](4)
	put(t, s, 10, 0)
	are(t, s, 4, values{0: 10})
	put(t, s, 11, 1)
	are(t, s, 4, values{0: 10, 1: 11})
	free(t, s, 0)
	are(t, s, 4, values{1: 11})
	put(t, s, 12, 0) // and not behind slot 1
	put(t, s, 13, 2)
	put(t, s, 14, 3)
	are(t, s, 4, values{0: 12, 1: 11, 2: 13, 3: 14})
	free(t, s, 3, 1, 2) // the lowest one, whichever was freed first or last
	put(t, s, 15, 1)
	put(t, s, 16, 2)
	put(t, s, 17, 3)
	are(t, s, 4, values{0: 12, 1: 15, 2: 16, 3: 17})
	victims(t, s, 0, 1) // wherever the hand is
	free(t, s, 0, 3)
	put(t, s, 18, 0)
	put(t, s, 19, 3)
	are(t, s, 4, values{0: 18, 1: 15, 2: 16, 3: 19})
}

func TestPutIfNoSlotIsFree(t *testing.T) { // P10.1, R1
	for _, many := range []int{1, 2, 3, 63, 64} {
		s := filled(t, many)
		full(t, s, 999)
		full(t, s, 0)
		are(t, s, many, tens(many))
		touch(t, s, s.All()...)
		full(t, s, 999)
		victims(t, s, 0)
		full(t, s, 999) // a victim keeps its value
		are(t, s, many, tens(many))
		free(t, s, many-1)
		put(t, s, 10*(many-1), many-1)
		full(t, s, 999)
		are(t, s, many, tens(many))
	}
}

func TestPutIsUntouched(t *testing.T) { // P10.1
	s := filled(t, 3)
	touch(t, s, 0, 1, 2)
	free(t, s, 1)
	put(t, s, 99, 1)
	victims(t, s, 1)
	are(t, s, 3, values{0: 0, 1: 99, 2: 20})

	s = New[int](2)
	put(t, s, 1, 0)
	touch(t, s, 0)
	free(t, s, 0)
	put(t, s, 2, 0) // touched, freed and put again
	put(t, s, 3, 1)
	victims(t, s, 0, 1)
}

func TestTouchOfAFreeSlotIsNotKept(t *testing.T) { // P10.1
	s := New[int](2)
	missing(t, s, 0)
	missing(t, s, 1)
	put(t, s, 1, 0)
	put(t, s, 2, 1)
	victims(t, s, 0, 1)
	free(t, s, 0)
	missing(t, s, 0)
	put(t, s, 3, 0)
	victims(t, s, 0, 1)
}

func TestValues(t *testing.T) { // P10.1
	s := filled(t, 4)
	for i := range 4 {
		get(t, s, i, 10*i, true)
	}
	set(t, s, 2, 7, true)
	are(t, s, 4, values{0: 0, 1: 10, 2: 7, 3: 30}) // its value alone
	set(t, s, 2, 8, true)
	set(t, s, 0, -1, true)
	set(t, s, 3, math.MinInt, true)
	are(t, s, 4, values{0: -1, 1: 10, 2: 8, 3: math.MinInt})
	free(t, s, 1)
	are(t, s, 4, values{0: -1, 2: 8, 3: math.MinInt}) // the others stay where they are
	missing(t, s, 1)
	put(t, s, 5, 1)
	are(t, s, 4, values{0: -1, 1: 5, 2: 8, 3: math.MinInt})
	set(t, s, 1, 0, true) // a zero value is a value
	are(t, s, 4, values{0: -1, 1: 0, 2: 8, 3: math.MinInt})
}

func TestSlotsThatAreNone(t *testing.T) { // P10.1, R1, P1
	for many := 1; many <= 64; many++ {
		s := filled(t, many)
		for _, i := range append([]int{many, many + 1, many + 64, 2 * many, 64}, never...) {
			if i >= 0 && i < many {
				continue
			}
			missing(t, s, i)
		}
		are(t, s, many, tens(many))
		victims(t, s, turn(many, 0)...)
	}
}

func TestFreeSlots(t *testing.T) { // P10.1, R1
	for many := 1; many <= 64; many++ {
		s := New[int](many)
		for i := range many {
			missing(t, s, i)
		}
		are(t, s, many, nil)
		s = filled(t, many)
		for i := range many {
			free(t, s, i)
			missing(t, s, i)
			missing(t, s, i)
		}
		are(t, s, many, nil)
	}
}

func TestSetLeavesASlotTouchedOrUntouched(t *testing.T) { // P10.1
	s := filled(t, 3)
	touch(t, s, 0)
	set(t, s, 0, 7, true) // touched still
	set(t, s, 1, 8, true) // untouched still
	set(t, s, 2, 9, true)
	victims(t, s, 1, 2, 0)

	s = filled(t, 3)
	set(t, s, 0, 7, true)
	touch(t, s, 0)
	victims(t, s, 1)
	touch(t, s, 2)
	victims(t, s, 0)
	set(t, s, 1, 7, true)
	set(t, s, 2, 7, true)
	victims(t, s, 1, 2, 0) // 2 was spared before
	are(t, s, 3, values{0: 7, 1: 7, 2: 7})
}

func TestGetDoesNotTouch(t *testing.T) { // P10.1
	s := filled(t, 3)
	get(t, s, 0, 0, true)
	are(t, s, 3, tens(3))
	victims(t, s, 0, 1)
	get(t, s, 2, 20, true)
	victims(t, s, 2)
}

func TestTouchedTwiceIsTouchedOnce(t *testing.T) { // P10.1, P10.2
	s := filled(t, 2)
	touch(t, s, 0, 0, 0)
	victims(t, s, 1, 0, 1, 0)
}

func TestVictimIfAllSlotsAreFree(t *testing.T) { // P10.2, R1
	for many := 1; many <= 64; many++ {
		s := New[int](many)
		noVictim(t, s)
		noVictim(t, s)
		are(t, s, many, nil)
		for i := range many {
			put(t, s, 0, i)
		}
		touch(t, s, s.All()...)
		free(t, s, s.All()...)
		noVictim(t, s)
		missing(t, s, 0)
		put(t, s, 5, 0)
		victims(t, s, 0)
	}
}

func TestTheHandStaysIfAllSlotsAreFree(t *testing.T) { // P10.2
	for many := 1; many <= 64; many++ {
		for hand := range many {
			s := filled(t, many)
			victims(t, s, turn(many, 0)[:hand]...)
			free(t, s, s.All()...)
			noVictim(t, s)
			noVictim(t, s)
			for i := range many {
				put(t, s, i, i)
			}
			victims(t, s, turn(many, hand)...)
		}
	}
}

func TestVictimIfAllSlotsAreUntouched(t *testing.T) { // P10.2, P10.3
	for many := 1; many <= 64; many++ {
		s := filled(t, many)
		for range 3 {
			victims(t, s, turn(many, 0)...)
		}
		are(t, s, many, tens(many))
	}
}

func TestVictimIfAllSlotsAreTouched(t *testing.T) { // P10.2
	for many := 1; many <= 64; many++ {
		for hand := range many {
			s := filled(t, many)
			victims(t, s, turn(many, 0)[:hand]...)
			touch(t, s, s.All()...)
			victims(t, s, turn(many, hand)...) // the first of them makes all of them untouched
			are(t, s, many, tens(many))
			if many > 1 {
				touch(t, s, hand)
				victims(t, s, (hand+1)%many)
			}
		}
	}
}

func TestVictimIfOneSlotIsUsed(t *testing.T) { // P10.2
	for many := 1; many <= 64; many++ {
		for one := range many {
			s := filled(t, many)
			for i := range many {
				if i != one {
					free(t, s, i)
				}
			}
			victims(t, s, one, one)
			touch(t, s, one)
			victims(t, s, one, one)
			are(t, s, many, values{one: 10 * one})
		}
	}
}

func TestVictimIfOneSlotIsTouched(t *testing.T) { // P10.2, P10.3
	for _, many := range []int{2, 3, 4, 5, 8, 63, 64} {
		for one := range many {
			for hand := range many {
				s := filled(t, many)
				victims(t, s, turn(many, 0)[:hand]...)
				touch(t, s, one)
				others := slices.DeleteFunc(turn(many, hand), func(i int) bool { return i == one })
				victims(t, s, others...)
				if turn(many, hand)[many-1] == one { // the hand passes it behind the others alone
					victims(t, s, others...)
				} else {
					victims(t, s, turn(many, hand)...)
				}
			}
		}
	}
}

func TestVictimWithTheHandAtTheLastSlot(t *testing.T) { // P10.2
	s := filled(t, 4)
	victims(t, s, 0, 1, 2)
	victims(t, s, 3, 0)

	s = filled(t, 4)
	victims(t, s, 0, 1, 2)
	touch(t, s, 3)
	victims(t, s, 0, 1, 2, 3)

	s = filled(t, 4)
	victims(t, s, 0, 1, 2)
	touch(t, s, 3, 0)
	victims(t, s, 1, 2, 3, 0)

	s = filled(t, 4)
	victims(t, s, 0, 1, 2)
	free(t, s, 3)
	victims(t, s, 0, 1, 2, 0)

	s = filled(t, 4)
	victims(t, s, 0, 1, 2)
	touch(t, s, 0, 1, 2, 3)
	free(t, s, 0)
	victims(t, s, 3, 1, 2, 3, 1)
}

func TestVictimBehindPut(t *testing.T) { // P10.2
	s := New[int](3)
	put(t, s, 1, 0)
	victims(t, s, 0)
	put(t, s, 2, 1)
	victims(t, s, 1, 0) // the hand did not move by Put
	put(t, s, 3, 2)
	victims(t, s, 1, 2, 0)
	free(t, s, 0)
	put(t, s, 4, 0) // behind the hand
	victims(t, s, 1, 2, 0, 1)
	full(t, s, 5)
	victims(t, s, 2)
}

func TestVictimBehindSetAndGet(t *testing.T) { // P10.2
	s := filled(t, 3)
	victims(t, s, 0)
	set(t, s, 0, 7, true)
	set(t, s, 1, 8, true)
	set(t, s, 2, 9, true)
	victims(t, s, 1)
	get(t, s, 2, 9, true)
	are(t, s, 3, values{0: 7, 1: 8, 2: 9})
	victims(t, s, 2, 0)
	set(t, s, 3, 1, false)
	set(t, s, -1, 1, false)
	victims(t, s, 1)
}

func TestVictimBehindFree(t *testing.T) { // P10.2
	s := filled(t, 4)
	free(t, s, 0)
	victims(t, s, 1)
	free(t, s, 1) // the victim itself: its slot is reused
	put(t, s, 9, 0)
	victims(t, s, 2) // the hand did not move by Free
	free(t, s, 3)
	victims(t, s, 0, 2)
	put(t, s, 8, 1)
	put(t, s, 7, 3)
	victims(t, s, 3, 0, 1, 2)
	are(t, s, 4, values{0: 9, 1: 8, 2: 20, 3: 7})
}

func TestVictimMakesUntouchedWhatItPassesAlone(t *testing.T) { // P10.2
	s := filled(t, 5)
	touch(t, s, 0, 3)
	victims(t, s, 1) // 0 is untouched from here on, 3 is touched still
	victims(t, s, 2, 4, 0)
	victims(t, s, 1, 2, 3, 4)

	s = filled(t, 5)
	touch(t, s, 0, 1, 3)
	free(t, s, 2)
	victims(t, s, 4)
	touch(t, s, 1)
	victims(t, s, 0, 3, 4, 0, 1)
}

func TestTheVictimKeepsItsValue(t *testing.T) { // P10.2
	s := filled(t, 3)
	for range 10 {
		i, ok := s.Victim()
		get(t, s, i, 10*i, ok)
		are(t, s, 3, tens(3))
	}
	touch(t, s, 0, 1, 2)
	victims(t, s, 1)
	are(t, s, 3, tens(3))
}

func TestTheExample(t *testing.T) { // P10.3
	s := New[string](2)
	put(t, s, "first", 0)
	put(t, s, "second", 1)
	touch(t, s, 0)
	victims(t, s, 1)
}

func TestUntouchedSlotsAreChosenAheadOfATouchedOne(t *testing.T) { // P10.3
	for many := 2; many <= 64; many++ {
		for one := range many {
			for _, hand := range []int{0, 1, one, (one + 1) % many, many - 1} {
				s := filled(t, many)
				victims(t, s, turn(many, 0)[:hand]...)
				touch(t, s, one)
				if i, ok := s.Victim(); i == one || !ok {
					t.Errorf("of %d slots, of which %d is touched, the victim is %d, %t", many, one, i, ok)
				}
			}
		}
	}
}

func TestUsedSlotsAreChosenInTurn(t *testing.T) { // P10.3
	for many := 1; many <= 64; many++ {
		for step := 1; step <= 5; step++ {
			s := filled(t, many)
			var used []int
			for i := range many {
				if i%step == 0 {
					used = append(used, i)
				} else {
					free(t, s, i)
				}
			}
			for range 3 {
				victims(t, s, used...)
			}
		}
	}
}

func TestNilSlots(t *testing.T) { // P10.2, R1, P1
	for _, s := range []*Slots[int]{nil, New[int](0), New[int](65)} {
		full(t, s, 0)
		full(t, s, 7)
		for _, i := range append([]int{0, 1, 63, 64}, never...) {
			missing(t, s, i)
		}
		noVictim(t, s)
		are(t, s, 0, nil)
	}
	var s *Slots[string]
	full(t, s, "a")
	get(t, s, 0, "", false)
	noVictim(t, s)
}

func TestSlotsOfStrings(t *testing.T) { // P10.1, P10.2
	s := New[string](2)
	put(t, s, "a", 0)
	put(t, s, "", 1)
	full(t, s, "c")
	get(t, s, 0, "a", true)
	get(t, s, 1, "", true)
	set(t, s, 1, "b", true)
	get(t, s, 1, "b", true)
	get(t, s, 2, "", false)
	free(t, s, 0)
	get(t, s, 0, "", false)
	victims(t, s, 1)
}

func TestSlotsOfStructs(t *testing.T) { // P10.1, P10.2
	q := api.Question{Name: "\x01a\x00", Type: api.A, Class: api.IN}
	other := api.Question{Name: "\x01b\x00", Type: api.A, Class: api.IN}
	s := New[api.Question](3)
	put(t, s, q, 0)
	put(t, s, other, 1)
	put(t, s, q, 2) // the same value twice
	set(t, s, 0, api.Question{}, true)
	get(t, s, 0, api.Question{}, true)
	get(t, s, 1, other, true)
	get(t, s, 2, q, true)
	get(t, s, 3, api.Question{}, false)
	touch(t, s, 0)
	victims(t, s, 1, 2, 0)
	free(t, s, 2)
	get(t, s, 2, api.Question{}, false)
}

func TestSlotsOfOtherTypes(t *testing.T) { // P10.1
	nothing := New[struct{}](2)
	put(t, nothing, struct{}{}, 0)
	put(t, nothing, struct{}{}, 1)
	full(t, nothing, struct{}{})
	victims(t, nothing, 0, 1)

	n := 7
	pointers := New[*int](2)
	put(t, pointers, &n, 0)
	put(t, pointers, nil, 1)
	get(t, pointers, 0, &n, true)
	get(t, pointers, 1, nil, true)
	free(t, pointers, 0)
	get(t, pointers, 0, nil, false)

	arrays := New[[3]byte](1)
	put(t, arrays, [3]byte{1, 2, 3}, 0)
	get(t, arrays, 0, [3]byte{1, 2, 3}, true)

	entries := New[api.Entry](1) // values that can't be compared
	put(t, entries, api.Entry{Rank: 3, RRs: []api.RR{{TTL: 5}}}, 0)
	if e, ok := entries.Get(0); !ok || e.Rank != 3 || len(e.RRs) != 1 {
		t.Errorf("Get(0) = %v, %t", e, ok)
	}
	if e, ok := entries.Get(1); ok || e.Rank != 0 || e.RRs != nil {
		t.Errorf("Get(1) = %v, %t", e, ok)
	}
}

func TestSlotsAreNotShared(t *testing.T) { // R3, R4
	a, b := filled(t, 3), filled(t, 3)
	touch(t, a, 0)
	set(t, a, 1, 7, true)
	victims(t, a, 1)
	free(t, a, 2)
	are(t, b, 3, tens(3))
	victims(t, b, 0, 1, 2)
	all := b.All()
	again := b.All()
	for i := range all {
		all[i] = -1
	}
	_ = append(all[:1], 5, 6, 7)
	if !slices.Equal(again, []int{0, 1, 2}) {
		t.Errorf("All() changed to %v", again)
	}
	are(t, b, 3, tens(3))
}

// plain is what the chapter says that slots of numbers are.
type plain struct {
	many, hand int
	values     values
	touched    map[int]bool
}

// deed is a call: of Put, Set, Touch, Free or Victim, by its first letter.
type deed struct {
	call byte
	i, x int
}

// do is what a call returns of plain slots, as a number and a bool.
func (p *plain) do(d deed) (int, bool) {
	_, used := p.values[d.i]
	switch d.call {
	case 'P':
		for i := range p.many {
			if _, used := p.values[i]; !used {
				p.values[i] = d.x
				return i, true
			}
		}
		return 0, false
	case 'S':
		if used {
			p.values[d.i] = d.x
		}
	case 'T':
		if used {
			p.touched[d.i] = true
		}
	case 'F':
		delete(p.values, d.i)
		delete(p.touched, d.i)
	default:
		return p.victim()
	}
	return 0, used
}

// victim chooses among the used slots as they come from the hand on, as a list.
func (p *plain) victim() (int, bool) {
	order := slices.DeleteFunc(turn(p.many, p.hand), func(i int) bool {
		_, used := p.values[i]
		return !used
	})
	if len(order) == 0 {
		return 0, false
	}
	k := slices.IndexFunc(order, func(i int) bool { return !p.touched[i] })
	passed := order
	if k >= 0 {
		passed = order[:k]
	} else {
		k = 0
	}
	for _, i := range passed {
		delete(p.touched, i)
	}
	p.hand = (order[k] + 1) % p.many
	return order[k], true
}

// state is all that what is to come hangs on, but for the values.
func (p *plain) state() string {
	return fmt.Sprint(p.hand, slices.Sorted(maps.Keys(p.values)), slices.Sorted(maps.Keys(p.touched)))
}

// pair has slots and what the chapter says of them.
type pair struct {
	s *Slots[int]
	p *plain
}

func newPair(many int) pair {
	return pair{New[int](many), &plain{many: many, values: values{}, touched: map[int]bool{}}}
}

// do sees to it that a call returns what the chapter says.
func (b pair) do(t *testing.T, d deed) {
	t.Helper()
	var i int
	var ok bool
	switch d.call {
	case 'P':
		var err api.Errno
		i, err = b.s.Put(d.x)
		ok = err == api.OK
		if !ok && err != api.ErrFull {
			t.Errorf("Put(%d) returned the error %d", d.x, err)
		}
	case 'S':
		ok = b.s.Set(d.i, d.x)
	case 'T':
		ok = b.s.Touch(d.i)
	case 'F':
		ok = b.s.Free(d.i)
	default:
		i, ok = b.s.Victim()
	}
	if want, has := b.p.do(d); i != want || ok != has {
		t.Fatalf("%c %d %d returned %d, %t, want %d, %t; the state is %s now", d.call, d.i, d.x, i, ok, want, has, b.p.state())
	}
}

// deeds are all calls of so many slots, also of slots that are none.
func deeds(many int) []deed {
	l := []deed{{'P', 0, 5}, {'V', 0, 0}}
	for i := -1; i <= many; i++ {
		l = append(l, deed{'S', i, 6}, deed{'T', i, 0}, deed{'F', i, 0})
	}
	return l
}

// paths has for each state of so many slots the calls that lead to it.
func paths(many int) [][]deed {
	all := [][]deed{nil}
	seen := map[string]bool{newPair(many).p.state(): true}
	for n := 0; n < len(all); n++ {
		for _, d := range deeds(many) {
			path := append(slices.Clone(all[n]), d)
			p := newPair(many).p
			for _, d := range path {
				p.do(d)
			}
			if !seen[p.state()] {
				seen[p.state()] = true
				all = append(all, path)
			}
		}
	}
	return all
}

func TestEveryStateOfAFewSlots(t *testing.T) { // P10.1, P10.2, P10.3
	for many := 1; many <= 3; many++ {
		all := paths(many)
		if want := many * int(math.Pow(3, float64(many))); len(all) != want { // each slot is free, touched or untouched
			t.Errorf("%d slots have %d states, want %d", many, len(all), want)
		}
		for _, path := range all {
			for _, first := range deeds(many) {
				for _, second := range deeds(many) {
					b := newPair(many)
					for _, d := range path {
						b.do(t, d)
					}
					b.do(t, first)
					are(t, b.s, many, b.p.values)
					b.do(t, second)
					for range many + 1 { // they tell where the hand is, and what is touched
						b.do(t, deed{'V', 0, 0})
					}
					are(t, b.s, many, b.p.values)
				}
			}
		}
	}
}

// FuzzDeeds holds slots against what the chapter says of them, call by call: P1, P10.1, P10.2.
func FuzzDeeds(f *testing.F) {
	f.Add(4, "PPPPPT\x00T\x02VVVVVF\x01PVVVVV")
	f.Add(1, "VPVT\x00VPF\x00VS\x00T\x00")
	f.Add(64, "PPPT\x01VVVF\x00F\x02PVVT\x40S\x40F\x40T\xff")
	f.Add(3, "PPPT\x00T\x01T\x02VVVVS\x01VF\x00F\x01F\x02VVPPPV")
	f.Fuzz(func(t *testing.T, many int, calls string) {
		if many < 1 || many > 64 {
			if New[int](many) != nil {
				t.Errorf("New(%d) is not nil", many)
			}
			many = 1 + int(uint(many)%64)
		}
		b := newPair(many)
		for n := 0; n < len(calls); n++ {
			d := deed{call: calls[n], x: n}
			if n+1 < len(calls) && (d.call == 'S' || d.call == 'T' || d.call == 'F') {
				n++
				d.i = int(int8(calls[n]))
			}
			b.do(t, d)
			x, used := b.p.values[d.i]
			get(t, b.s, d.i, x, used)
		}
		are(t, b.s, many, b.p.values)
	})
}

// FuzzChoice sees to it that the victims are those that P10.3 says: P1, P10.2, P10.3.
func FuzzChoice(f *testing.F) {
	f.Add(2, uint64(0), uint64(1), 0)
	f.Add(4, uint64(2), uint64(13), 3)
	f.Add(64, uint64(1<<63), uint64(1<<62+5), 63)
	f.Add(7, ^uint64(0), uint64(0), 5)
	f.Add(64, uint64(0), ^uint64(0), 17)
	f.Fuzz(func(t *testing.T, many int, freed, touched uint64, hand int) {
		many = 1 + int(uint(many)%64)
		s := filled(t, many)
		for range uint(hand) % uint(many) {
			s.Victim()
		}
		var used, untouched []int
		for i := range many {
			switch {
			case freed>>i&1 == 1:
				free(t, s, i)
			case touched>>i&1 == 1:
				touch(t, s, i)
				used = append(used, i)
			default:
				used, untouched = append(used, i), append(untouched, i)
			}
		}
		if len(used) == 0 {
			noVictim(t, s)
			return
		}
		first, ok := s.Victim()
		if !ok || !slices.Contains(used, first) || len(untouched) > 0 && !slices.Contains(untouched, first) {
			t.Errorf("the victim is %d, %t, of %v, of which %v are untouched", first, ok, used, untouched)
		}
		for range len(used) { // by then the hand has passed every slot
			s.Victim()
		}
		last, _ := s.Victim()
		at := slices.Index(used, last)
		for range 2 {
			victims(t, s, append(slices.Clone(used[at+1:]), used[:at+1]...)...)
		}
	})
}

func ExampleSlots() {
	s := New[string](2)
	first, _ := s.Put("first")
	s.Put("second")
	s.Touch(first)
	i, ok := s.Victim()
	x, _ := s.Get(i)
	fmt.Println(i, ok, x)
	_, err := s.Put("third")
	fmt.Println(err == api.ErrFull, s.Free(i), s.All())
	// Output:
	// 1 true second
	// true true [0]
}
