package wheel

import (
	"cmp"
	"fmt"
	"maps"
	"math"
	"slices"
	"testing"

	"derrick/api"
)

const last = math.MaxUint64

// sizes that a wheel may have, of which each is to tell the same.
var sizes = []int{1, 2, 3, 7, 64, 255, 256}

// never are numbers of spokes that there may not be. Some may be if only some of their bits are regarded, or if the sign is not.
var never = []int{
	0, 257, 258, 259, 511, 512, 513, 1024, 65535, 65536, 65537, 65792,
	1<<31 - 1, 1 << 31, 1<<31 + 1, 1<<32 - 1, 1 << 32, 1<<32 + 1, 1<<32 + 256, 1<<48 + 2, math.MaxInt - 1, math.MaxInt,
	-1, -2, -3, -255, -256, -257, -65535, -1 << 31, 1 - 1<<32, 3 - 1<<32, math.MinInt, math.MinInt + 1, math.MinInt + 2, math.MinInt + 256,
}

// ids from the least to the greatest int, of which some are the same in some of their bits.
var ids = []int{
	math.MinInt, math.MinInt + 1, math.MinInt + 256, -1<<32 - 1, -1 << 32, -1 << 31, -65536, -257, -256, -255, -64, -7, -2, -1,
	0, 1, 2, 7, 64, 255, 256, 257, 512, 65536, 1<<31 - 1, 1 << 31, 1<<32 - 1, 1 << 32, 1<<32 + 1, math.MaxInt - 256, math.MaxInt - 1, math.MaxInt,
}

// times are edges of times, ascending.
var times = []uint64{0, 1, 2, 255, 256, 257, 1<<31 - 1, 1 << 31, 1<<32 - 1, 1 << 32, 1<<32 + 1, 1<<63 - 1, 1 << 63, 1<<63 + 1, last - 1, last}

// set is the times of ids.
type set = map[int]uint64

// are sees to it that these ids and no others have times.
func are(t *testing.T, w *Wheel, want set) {
	t.Helper()
	if got := w.Len(); got != len(want) {
		t.Errorf("Len() = %d, want %d", got, len(want))
	}
	for id, at := range want {
		has(t, w, id, at, true)
	}
	for id := -3; id <= 3; id++ {
		at, ok := want[id]
		has(t, w, id, at, ok)
	}
	next(t, w, want)
}

func has(t *testing.T, w *Wheel, id int, want uint64, ok bool) {
	t.Helper()
	if at, got := w.At(id); at != want || got != ok {
		t.Errorf("At(%d) = %d, %t, want %d, %t", id, at, got, want, ok)
	}
}

// next sees to it that Next returns the least of these times.
func next(t *testing.T, w *Wheel, of set) {
	t.Helper()
	all := slices.Sorted(maps.Values(of))
	var least uint64
	if len(all) > 0 {
		least = all[0]
	}
	if at, ok := w.Next(); at != least || ok != (len(all) > 0) {
		t.Errorf("Next() = %d, %t, want %d, %t", at, ok, least, len(all) > 0)
	}
}

func give(t *testing.T, w *Wheel, id int, at uint64) {
	t.Helper()
	if err := w.Set(id, at); err != api.OK {
		t.Errorf("Set(%d, %d) = %d", id, at, err)
	}
}

func del(t *testing.T, w *Wheel, id int, want bool) {
	t.Helper()
	if got := w.Del(id); got != want {
		t.Errorf("Del(%d) = %t", id, got)
	}
}

// due sees to it that these ids are due, in that order.
func due(t *testing.T, w *Wheel, now uint64, want ...int) {
	t.Helper()
	if got := w.Due(now); !slices.Equal(got, want) {
		t.Errorf("Due(%d) = %v, want %v", now, got, want)
	}
}

// made returns a wheel with these ids.
func made(t *testing.T, size int, of set) *Wheel {
	t.Helper()
	w := New(size)
	if w == nil {
		t.Fatalf("New(%d) = nil", size)
	}
	for id, at := range of {
		give(t, w, id, at)
	}
	return w
}

func TestNew(t *testing.T) { // P11.1
	for size := 1; size <= 256; size++ {
		w := made(t, size, nil)
		if len(w.spokes) != size {
			t.Errorf("New(%d) has %d spokes", size, len(w.spokes))
		}
		are(t, w, nil)
		for _, id := range ids {
			has(t, w, id, 0, false)
			del(t, w, id, false)
		}
		due(t, w, 0)
		due(t, w, last)
		are(t, w, nil)
	}
}

func TestNewIfThereMayNotBeSoManySpokes(t *testing.T) { // P11.1, P1
	for _, size := range never {
		if New(size) != nil {
			t.Errorf("New(%d) is not nil", size)
		}
	}
	for size := -1000; size <= 1000; size++ {
		if (New(size) != nil) != (size >= 1 && size <= 256) {
			t.Errorf("New(%d) is nil: %t", size, New(size) == nil)
		}
	}
}

func TestSetOfNewIds(t *testing.T) { // P11.1
	for _, size := range sizes {
		w := New(size)
		want := set{}
		for k, id := range ids {
			has(t, w, id, 0, false)
			give(t, w, id, uint64(1000-k))
			want[id] = uint64(1000 - k)
			are(t, w, want)
		}
	}
}

func TestSetOfEveryTime(t *testing.T) { // P11.1, P11.2
	for _, size := range sizes {
		for _, id := range ids {
			for _, at := range times {
				w := made(t, size, set{id: at})
				are(t, w, set{id: at})
				if at > 0 {
					due(t, w, at-1)
					due(t, w, 0)
					are(t, w, set{id: at})
				}
				due(t, w, at, id)
				are(t, w, nil)
				has(t, w, id, 0, false)
				due(t, w, last)
			}
		}
	}
}

func TestSetOfAnIdThatHasATime(t *testing.T) { // P11.1, P11.2
	for _, size := range sizes {
		for _, from := range times {
			for _, to := range times {
				w := made(t, size, set{7: from, 8: 100})
				give(t, w, 7, to)
				are(t, w, set{7: to, 8: 100})
				del(t, w, 8, true)
				if to > 0 {
					due(t, w, to-1) // not by the time that it had
				}
				due(t, w, to, 7)
				due(t, w, last) // nor a second time
				are(t, w, nil)
			}
		}
	}
}

func TestSetBackAndForth(t *testing.T) { // P11.1
	for _, size := range sizes {
		w := New(size)
		for _, at := range []uint64{5, 3, 3, 9, 0, last, 4, 260, 4} {
			give(t, w, -1, at)
			are(t, w, set{-1: at})
		}
		due(t, w, 3)
		due(t, w, 4, -1)
		are(t, w, nil)
	}
}

func TestDel(t *testing.T) { // P11.1
	for _, size := range sizes {
		w := made(t, size, set{0: 5, -1: 3, 1: 3, math.MinInt: 9, math.MaxInt: 1})
		del(t, w, 2, false)
		are(t, w, set{0: 5, -1: 3, 1: 3, math.MinInt: 9, math.MaxInt: 1})
		del(t, w, math.MaxInt, true)
		are(t, w, set{0: 5, -1: 3, 1: 3, math.MinInt: 9})
		del(t, w, math.MaxInt, false)
		del(t, w, 1, true)
		are(t, w, set{0: 5, -1: 3, math.MinInt: 9})
		del(t, w, -1, true)
		del(t, w, -1, false)
		are(t, w, set{0: 5, math.MinInt: 9})
		del(t, w, math.MinInt, true)
		due(t, w, 4)
		due(t, w, last, 0)
		del(t, w, 0, false) // it was due
		are(t, w, nil)
		give(t, w, 0, 2) // and may have a time again
		give(t, w, 1, 2)
		del(t, w, 0, true)
		due(t, w, 2, 1)
	}
}

func TestDelOfEachId(t *testing.T) { // P11.1
	for _, size := range sizes {
		of := set{}
		for k, id := range ids {
			of[id] = times[k%len(times)]
		}
		for _, id := range ids {
			w := made(t, size, of)
			del(t, w, id, true)
			has(t, w, id, 0, false)
			del(t, w, id, false)
			rest := maps.Clone(of)
			delete(rest, id)
			are(t, w, rest)
			if got := w.Due(last); slices.Contains(got, id) || len(got) != len(rest) {
				t.Errorf("of the size %d, Due behind Del(%d) returned %v", size, id, got)
			}
		}
	}
}

func TestDueOfAnEmptyWheel(t *testing.T) { // P11.2
	for _, size := range sizes {
		w := New(size)
		for _, now := range times {
			due(t, w, now)
			are(t, w, nil)
		}
		give(t, w, 3, 4)
		del(t, w, 3, true)
		due(t, w, 4)
		due(t, w, last)
	}
}

func TestDueBelowAtAndAboveTheLeastTime(t *testing.T) { // P11.2
	for _, size := range sizes {
		for now := uint64(0); now <= 20; now++ {
			w := made(t, size, set{4: 10, 2: 12, 5: 11, 3: 10})
			switch {
			case now < 10:
				due(t, w, now)
				are(t, w, set{4: 10, 2: 12, 5: 11, 3: 10})
			case now == 10:
				due(t, w, now, 3, 4)
				are(t, w, set{2: 12, 5: 11})
			case now == 11:
				due(t, w, now, 3, 4, 5)
				are(t, w, set{2: 12})
			default:
				due(t, w, now, 3, 4, 5, 2)
				are(t, w, nil)
			}
			due(t, w, now) // the same time again
			due(t, w, 0)
		}
	}
}

func TestDueOfTheLeastAndTheGreatestTime(t *testing.T) { // P11.2
	for _, size := range sizes {
		of := set{1: 0, 2: 1, -1: last, 3: last - 1, 0: 0}
		w := made(t, size, of)
		due(t, w, 0, 0, 1)
		are(t, w, set{2: 1, -1: last, 3: last - 1})
		due(t, w, 0)
		due(t, w, last-1, 2, 3)
		are(t, w, set{-1: last})
		due(t, w, last-1)
		due(t, w, last, -1)
		are(t, w, nil)
		due(t, w, last)
		due(t, made(t, size, of), last, 0, 1, 2, 3, -1)
	}
}

func TestDueOfATimeBeforeAnEarlierOne(t *testing.T) { // P11.2, P11.3
	for _, size := range sizes {
		w := made(t, size, set{1: 5, 2: 500, 3: 1000})
		due(t, w, 600, 1, 2)
		due(t, w, 100)
		are(t, w, set{3: 1000})
		give(t, w, 4, 50) // a time that has been
		give(t, w, 5, 300)
		give(t, w, 6, 600)
		give(t, w, 2, 601)
		are(t, w, set{2: 601, 3: 1000, 4: 50, 5: 300, 6: 600})
		due(t, w, 49)
		due(t, w, 50, 4)
		due(t, w, 0)
		due(t, w, 299)
		due(t, w, 600, 5, 6)
		are(t, w, set{2: 601, 3: 1000})
		due(t, w, last, 2, 3)
		give(t, w, 1, 0)
		give(t, w, 2, last)
		due(t, w, 0, 1)
		due(t, w, last, 2)
		are(t, w, nil)
	}
}

func TestAnIdMayBeDueMoreThanOnceIfItIsSetAgain(t *testing.T) { // P11.1, P11.3
	for _, size := range sizes {
		w := New(size)
		for _, at := range []uint64{3, 3, 900, 1, 0, last, last, 2} {
			give(t, w, 9, at)
			has(t, w, 9, at, true)
			due(t, w, at, 9)
			has(t, w, 9, 0, false)
			del(t, w, 9, false)
			due(t, w, last)
			are(t, w, nil)
		}
	}
}

func TestDueIsOrderedByTimes(t *testing.T) { // P11.2
	for _, size := range sizes {
		of := set{}
		for k, at := range times {
			of[-10*k] = at // ids descend as times ascend
		}
		w := made(t, size, of)
		got := w.Due(last)
		for k := range times {
			if len(got) != len(times) || got[k] != -10*k {
				t.Fatalf("of the size %d, Due returned %v", size, got)
			}
		}
	}
}

func TestDueOfEqualTimesIsOrderedByIds(t *testing.T) { // P11.2
	for _, size := range sizes {
		for _, at := range times {
			for step := 1; step < len(ids); step += 2 { // in different orders of being set
				w := New(size)
				for k := range ids {
					give(t, w, ids[k*step%len(ids)], at)
				}
				due(t, w, at, ids...)
				are(t, w, nil)
			}
		}
	}
}

func TestDueOfManyIds(t *testing.T) { // P11.2
	for _, size := range sizes {
		w := New(size)
		var want []int
		for k := range 2000 {
			id := k*1237%2000 - 1000
			give(t, w, id, uint64((id+1000)/10%40))
			want = append(want, id)
		}
		slices.SortFunc(want, func(a, b int) int {
			return cmp.Or(cmp.Compare((a+1000)/10%40, (b+1000)/10%40), cmp.Compare(a, b))
		})
		due(t, w, 9, want[:500]...)
		if w.Len() != 1500 {
			t.Errorf("Len() = %d", w.Len())
		}
		due(t, w, 9)
		due(t, w, 100, want[500:]...)
		are(t, w, nil)
	}
}

func TestNext(t *testing.T) { // P11.2
	for _, size := range sizes {
		w := New(size)
		want := set{}
		for k := len(times) - 1; k >= 0; k-- {
			give(t, w, k, times[k])
			want[k] = times[k]
			next(t, w, want)
		}
		for k, at := range times {
			next(t, w, want) // it removes nothing
			due(t, w, at, k)
			delete(want, k)
			next(t, w, want)
		}
		give(t, w, 1, 0)
		next(t, w, set{1: 0}) // a time 0 is a time
		give(t, w, 2, last)
		del(t, w, 1, true)
		next(t, w, set{2: last})
		give(t, w, 2, 7)
		next(t, w, set{2: 7})
		del(t, w, 2, true)
		next(t, w, nil)
	}
}

func TestNilWheel(t *testing.T) { // P11.1, P11.2, R1, P1
	for _, w := range []*Wheel{nil, New(0), New(257), {}} {
		for _, id := range ids {
			for _, at := range times {
				if err := w.Set(id, at); err != api.ErrArg {
					t.Errorf("Set(%d, %d) = %d, want %d", id, at, err, api.ErrArg)
				}
			}
			has(t, w, id, 0, false)
			del(t, w, id, false)
		}
		for _, now := range times {
			due(t, w, now)
		}
		are(t, w, nil)
	}
}

func TestTheExample(t *testing.T) { // P11.1, P11.2
	for _, size := range sizes {
		w := New(size)
		give(t, w, 7, 5)
		give(t, w, 7, 9)
		due(t, w, 5)
		due(t, w, 8)
		due(t, w, 9, 7)
		are(t, w, nil)
	}
}

func TestEachIdIsDueOnce(t *testing.T) { // P11.3
	for size := 1; size <= 256; size++ {
		w := New(size)
		of := set{}
		for k := range 100 {
			id := k*37 - 1500
			of[id] = uint64(k * k % 300)
			give(t, w, id, of[id])
		}
		for _, now := range []uint64{0, 3, 3, 2, 40, 255, 256, 100, 257, 298, 299, 300, 5, last} {
			var want []int
			for id, at := range of {
				if at <= now {
					want = append(want, id)
				}
			}
			got := w.Due(now)
			slices.Sort(got)
			slices.Sort(want)
			if !slices.Equal(got, want) {
				t.Errorf("of the size %d, Due(%d) = %v, want %v", size, now, got, want)
			}
			for _, id := range want {
				delete(of, id)
			}
		}
		are(t, w, nil)
	}
}

func TestWheelsAreNotShared(t *testing.T) { // R3, R4
	a, b := New(7), New(7)
	give(t, a, 1, 5)
	give(t, a, 2, 5)
	give(t, b, 1, 6)
	are(t, a, set{1: 5, 2: 5})
	are(t, b, set{1: 6})
	del(t, a, 1, true)
	are(t, b, set{1: 6})
	due(t, a, 9, 2)
	are(t, b, set{1: 6})

	for id := range 5 {
		give(t, b, id, 5)
	}
	first := b.Due(5)
	kept := slices.Clone(first)
	for id := range 5 {
		give(t, b, 10+id, 5)
	}
	second := b.Due(5)
	for i := range second {
		second[i] = -1
	}
	if !slices.Equal(first, kept) {
		t.Errorf("what Due returned changed to %v", first)
	}
	give(t, b, 3, 5)
	_ = append(first[:0], 9, 9, 9)
	are(t, b, set{3: 5})
	due(t, b, 5, 3)
}

// deed is a call: of Set, Del or Due, by its first letter ('U' is Due).
type deed struct {
	call byte
	id   int
	at   uint64
}

// plain is what the chapter says of a wheel: it sorts a list, and has no spokes.
type plain set

// due returns and removes the ids that are due.
func (p plain) due(now uint64) []int {
	var all []int
	for id, at := range p {
		if at <= now {
			all = append(all, id)
		}
	}
	slices.Sort(all)
	slices.SortStableFunc(all, func(a, b int) int { return cmp.Compare(p[a], p[b]) })
	for _, id := range all {
		delete(p, id)
	}
	return all
}

// do sees to it that a call does what the chapter says.
func (p plain) do(t *testing.T, w *Wheel, d deed) {
	t.Helper()
	switch d.call {
	case 'S':
		give(t, w, d.id, d.at)
		p[d.id] = d.at
	case 'D':
		_, had := p[d.id]
		del(t, w, d.id, had)
		delete(p, d.id)
	default:
		due(t, w, d.at, p.due(d.at)...)
	}
	at, ok := p[d.id]
	has(t, w, d.id, at, ok)
}

func TestEveryStateOfAFewIds(t *testing.T) { // P11.1, P11.2, P11.3
	few := []int{-1, 0, 6}
	edges := []uint64{0, 1, 8, last}
	var deeds []deed
	for _, at := range edges {
		deeds = append(deeds, deed{call: 'U', at: at})
		for _, id := range few {
			deeds = append(deeds, deed{'S', id, at})
		}
	}
	for _, id := range few {
		deeds = append(deeds, deed{call: 'D', id: id})
	}
	for _, size := range []int{1, 2, 7, 256} {
		for state := range 5 * 5 * 5 { // each id has one of the times or none
			for _, first := range deeds {
				for _, second := range deeds {
					w, p := New(size), plain{}
					for k, s := 0, state; k < len(few); k, s = k+1, s/5 {
						if s%5 < len(edges) {
							p.do(t, w, deed{'S', few[k], edges[s%5]})
						}
					}
					p.do(t, w, first)
					p.do(t, w, second)
					are(t, w, set(p))
				}
			}
		}
	}
}

// told is all that the functions of a wheel of that size return behind a row of deeds.
func told(size int, deeds []deed) string {
	w := New(size)
	var all []byte
	for _, d := range deeds {
		switch d.call {
		case 'S':
			all = fmt.Append(all, w.Set(d.id, d.at))
		case 'D':
			all = fmt.Append(all, w.Del(d.id))
		default:
			all = fmt.Append(all, w.Due(d.at))
		}
		at, ok := w.At(d.id)
		least, any := w.Next()
		all = fmt.Appendln(all, at, ok, least, any, w.Len())
	}
	return string(all)
}

func TestTheNumberOfSpokesHasNoEffect(t *testing.T) { // P11.1, P11.3
	var deeds []deed
	state := uint64(1)
	for range 600 {
		state = state*6364136223846793005 + 1442695040888963407
		r := state >> 33
		deeds = append(deeds, deed{"SSSSDU"[r%6], int(r/6%600) - 300, r / 3600 % 700})
	}
	want := told(1, deeds)
	for size := 2; size <= 256; size++ {
		if got := told(size, deeds); got != want {
			t.Errorf("wheels of the sizes 1 and %d differ", size)
		}
	}
}

// FuzzDeeds holds a wheel against what the chapter says of it, call by call: P1, P11.1, P11.2.
func FuzzDeeds(f *testing.F) {
	f.Add(1, int64(0), uint64(0), "S\x07\x05S\x07\x09U\x00\x08U\x00\x09")
	f.Add(7, int64(math.MinInt64), uint64(last), "S\x00\x00S\x01\x00S\xff\x01U\x00\x00D\x01\x00U\x00\x05")
	f.Add(256, int64(-3), uint64(1<<32-2), "S\x01\x03S\x02\x03S\x03\x01U\x00\x02U\x00\x01S\x03\x00U\x00\x03")
	f.Fuzz(func(t *testing.T, size int, id int64, at uint64, calls string) {
		if size < 1 || size > 256 {
			if New(size) != nil {
				t.Errorf("New(%d) is not nil", size)
			}
			size = 1 + int(uint(size)%256)
		}
		w, p := New(size), plain{}
		for ; len(calls) >= 3; calls = calls[3:] {
			p.do(t, w, deed{calls[0], int(id) + int(int8(calls[1])), at + uint64(calls[2])}) // ids and times may wrap round
		}
		are(t, w, set(p))
	})
}

// FuzzDue sees to it that each id is due once, by the first Due whose now is not below its time: P1, P11.3.
func FuzzDue(f *testing.F) {
	f.Add(1, 64, uint64(1), "\x05\x03\x09\x03\xff\x00", "\x02\x02\x04\x01\x08\xfe\xff")
	f.Add(2, 256, uint64(last/255), "\x00\xff\x80\x80", "\x7f\x80\x00\xff")
	f.Add(7, 3, uint64(1<<56), "abcdefg", "dcbagfe")
	f.Fuzz(func(t *testing.T, size, other int, scale uint64, ats, nows string) {
		w, v := New(1+int(uint(size)%256)), New(1+int(uint(other)%256))
		for id := range len(ats) {
			give(t, w, id, scale*uint64(ats[id]))
			give(t, v, id, scale*uint64(ats[id]))
		}
		seen := map[int]bool{}
		for k := range len(nows) {
			now := scale * uint64(nows[k])
			got := w.Due(now)
			due(t, v, now, got...)
			for _, id := range got {
				if seen[id] || scale*uint64(ats[id]) > now {
					t.Errorf("%d is due at %d", id, now)
				}
				seen[id] = true
			}
			for id := range len(ats) {
				if !seen[id] && scale*uint64(ats[id]) <= now {
					t.Errorf("%d is not due at %d", id, now)
				}
			}
			if w.Len() != len(ats)-len(seen) || v.Len() != w.Len() {
				t.Errorf("%d and %d ids of %d have a time, and %d were due", w.Len(), v.Len(), len(ats), len(seen))
			}
		}
	})
}

func ExampleWheel() {
	w := New(16)
	w.Set(7, 5)
	w.Set(7, 9)
	w.Set(3, 9)
	fmt.Println(w.Due(8), w.Len())
	fmt.Println(w.Next())
	fmt.Println(w.Due(9), w.Len())
	// Output:
	// [] 2
	// 9 true
	// [3 7] 0
}
