package ttl

import (
	"fmt"
	"math"
	"math/big"
	"slices"
	"testing"

	"derrick/api"
)

const (
	last   = math.MaxUint64 // the last time that there is
	most32 = math.MaxUint32 // the longest time to live that there is
)

// moments are times at which a sum or a difference that has wrapped round, or was cut to fewer bits, shows.
var moments = []uint64{
	0, 1, 2, 5, 7, 12, 255, 1000,
	1<<31 - 1, 1 << 31, 1<<31 + 1, 1<<32 - 2, 1<<32 - 1, 1 << 32, 1<<32 + 1, 1<<33 - 1, 1 << 33, 1<<40 + 5,
	1<<63 - 1, 1 << 63, 1<<63 + 1,
	last - 1<<33, last - 1<<32 - 1, last - 1<<32, last - 1<<32 + 1, last - 1<<31, last - 1000, last - 5, last - 2, last - 1, last,
}

// spans are times to live.
var spans = []uint32{0, 1, 2, 4, 5, 6, 7, 255, 256, 65535, 65536, 1<<31 - 2, 1<<31 - 1, 1 << 31, 1<<31 + 1, most32 - 1, most32}

// plainUntil is what P7.1 says of Until, computed with numbers that do not wrap round.
func plainUntil(now uint64, ttl uint32) uint64 {
	sum := new(big.Int).Add(new(big.Int).SetUint64(now), big.NewInt(int64(ttl)))
	if sum.IsUint64() {
		return sum.Uint64()
	}
	return last
}

// plainLeft is what P7.1 says of Left, computed with numbers that do not wrap round.
func plainLeft(expire, now uint64) uint32 {
	left := new(big.Int).Sub(new(big.Int).SetUint64(expire), new(big.Int).SetUint64(now))
	if left.Sign() <= 0 {
		return 0
	}
	if left.Cmp(big.NewInt(most32)) > 0 {
		return most32
	}
	return uint32(left.Uint64())
}

// plainClamp is what P7.2 says of Clamp.
func plainClamp(ttl, most uint32) uint32 {
	switch {
	case ttl >= 1<<31:
		return 0
	case most < ttl:
		return most
	}
	return ttl
}

func until(t *testing.T, now uint64, ttl uint32, want uint64) {
	t.Helper()
	if got := Until(now, ttl); got != want {
		t.Errorf("Until(%d, %d) = %d, want %d", now, ttl, got, want)
	}
}

// left holds Left against what is wanted, and Live as well: something lives as long as some time is left.
func left(t *testing.T, expire, now uint64, want uint32) {
	t.Helper()
	if got := Left(expire, now); got != want {
		t.Errorf("Left(%d, %d) = %d, want %d", expire, now, got, want)
	}
	if got := Live(expire, now); got != (want > 0) {
		t.Errorf("Live(%d, %d) = %t", expire, now, got)
	}
}

func clamp(t *testing.T, ttl, most, want uint32) {
	t.Helper()
	if got := Clamp(ttl, most); got != want {
		t.Errorf("Clamp(%d, %d) = %d, want %d", ttl, most, got, want)
	}
}

func TestUntilIsTheSum(t *testing.T) { // P7.1
	until(t, 0, 0, 0)
	until(t, 7, 5, 12)
	until(t, 5, 0, 5)
	until(t, 0, 5, 5)
	until(t, 1000, 3600, 4600)
	until(t, 0, most32, 1<<32-1)
	until(t, 1, most32, 1<<32) // of more bits than a time to live has
	until(t, 1<<32-1, 1, 1<<32)
	until(t, 1<<40, most32, 1<<40+1<<32-1)
	until(t, 1<<63-1, 1, 1<<63)
	until(t, 1<<63, most32, 1<<63+1<<32-1)
}

func TestUntilEndsAtTheLastTime(t *testing.T) { // P7.1
	until(t, last-1, 5, last)
	until(t, last, 0, last)
	until(t, last, 1, last)
	until(t, last, most32, last)
	for _, ttl := range spans {
		room := last - uint64(ttl)
		until(t, room, ttl, last) // the sum is just the last time
		if room > 0 {
			until(t, room-1, ttl, last-1)
		}
		if room < last {
			until(t, room+1, ttl, last) // one more than there is
		}
	}
}

func TestLeftIsTheDifference(t *testing.T) { // P7.1
	left(t, 12, 7, 5)
	left(t, 1, 0, 1)
	left(t, 4600, 1000, 3600)
	left(t, 1<<40+7, 1<<40, 7)
	left(t, last, last-1, 1)
	left(t, last, last-5, 5)
	left(t, 1<<63+2, 1<<63-2, 4)
}

func TestNothingIsLeftOfWhatHasExpired(t *testing.T) { // P7.1
	for _, now := range moments {
		left(t, now, now, 0)
		if now > 0 {
			left(t, now-1, now, 0)
			left(t, 0, now, 0)
		}
		if now < last {
			left(t, now+1, now, 1)
			left(t, now, last, 0)
		}
	}
	left(t, 5, 7, 0)
	left(t, 0, 1<<32, 0) // the difference is 0 if it is cut to 32 bits
	left(t, 1, 1<<32, 0)
	left(t, 0, last, 0) // and 1 if it has wrapped round
}

func TestLeftIsNeverMoreThanATimeToLiveCanSay(t *testing.T) { // P7.1
	for _, now := range moments {
		if now > last-1<<33 {
			continue
		}
		left(t, now+1<<32-2, now, most32-1)
		left(t, now+1<<32-1, now, most32) // what is left is just the longest
		left(t, now+1<<32, now, most32)   // 0 if it is cut to 32 bits
		left(t, now+1<<32+1, now, most32)
		left(t, now+1<<33-1, now, most32)
		left(t, now+1<<33, now, most32)
		left(t, last, now, most32)
	}
	left(t, last, last-1<<32, most32)
	left(t, last, last-1<<32+1, most32)
	left(t, last, last-1<<32+2, most32-1)
}

func TestLive(t *testing.T) { // P7.1
	for _, c := range []struct {
		expire, now uint64
		want        bool
	}{
		{12, 7, true}, {8, 7, true}, {7, 7, false}, {6, 7, false}, {0, 0, false}, {1, 0, true}, {0, 1, false},
		{last, last, false}, {last, last - 1, true}, {last - 1, last, false}, {last, 0, true}, {0, last, false},
		{1 << 32, 0, true}, {0, 1 << 32, false}, {1 << 32, 1, true}, {1, 1 << 32, false}, {1 << 63, 1<<63 - 1, true}, {1<<63 - 1, 1 << 63, false},
	} {
		if got := Live(c.expire, c.now); got != c.want {
			t.Errorf("Live(%d, %d) = %t", c.expire, c.now, got)
		}
	}
}

func TestTimesOfAllKinds(t *testing.T) { // P7.1
	for _, now := range moments {
		for _, ttl := range spans {
			until(t, now, ttl, plainUntil(now, ttl))
		}
		for _, expire := range moments {
			left(t, expire, now, plainLeft(expire, now))
		}
	}
}

func TestClampIsTheLesserOne(t *testing.T) { // P7.2
	clamp(t, 5, 9, 5)
	clamp(t, 9, 5, 5)
	clamp(t, 5, 5, 5)
	clamp(t, 0, 0, 0)
	clamp(t, 0, 7, 0)
	clamp(t, 7, 0, 0)
	clamp(t, 7, 1<<31, 7) // it is only the first one that can be too great
	clamp(t, 7, most32, 7)
	clamp(t, 0, most32, 0)
	clamp(t, 256, 255, 255)
	clamp(t, 65536, 65535, 65535)
}

func TestClampOfTheGreatestTimes(t *testing.T) { // P7.2
	const top = 1<<31 - 1
	for _, c := range []struct{ most, want uint32 }{
		{0, 0}, {1, 1}, {7, 7}, {top - 1, top - 1}, {top, top}, {top + 1, top}, {most32, top},
	} {
		clamp(t, top, c.most, c.want)
	}
	for _, ttl := range []uint32{1 << 31, 1<<31 + 1, 1<<31 + 7, 3 << 30, most32 - 1, most32} {
		for _, most := range []uint32{0, 1, 7, top, 1 << 31, ttl - 1, ttl, most32} {
			clamp(t, ttl, most, 0)
		}
		clamp(t, ttl, ttl+1, 0)
	}
}

func TestClampOfAllKinds(t *testing.T) { // P7.2
	for _, ttl := range spans {
		for _, most := range append(slices.Clone(spans), ttl-1, ttl, ttl+1) {
			clamp(t, ttl, most, plainClamp(ttl, most))
		}
	}
}

// records returns records with these times to live. No two of them have any other field in common, and some are not valid.
func records(ttls ...uint32) []api.RR {
	var l []api.RR
	for i, ttl := range ttls {
		l = append(l, api.RR{
			Name: "\x01" + string([]byte{byte('A' + i)}) + "\x00", Type: uint16(i + 1), Class: uint16(65535 - i), TTL: ttl,
			Data: fmt.Sprint("data", i),
		})
	}
	return l
}

// leastOf asks Least, and sees to it that the records stay as they were.
func leastOf(t *testing.T, l []api.RR, want uint32) {
	t.Helper()
	before := slices.Clone(l)
	if got := Least(l); got != want {
		t.Errorf("Least(%v) = %d, want %d", before, got, want)
	}
	if !slices.Equal(l, before) {
		t.Errorf("Least changed %v to %v", before, l)
	}
}

func TestLeastOfNoRecordsIsZero(t *testing.T) { // P7.2, R2
	leastOf(t, nil, 0)
	leastOf(t, []api.RR{}, 0)
	leastOf(t, records(5, 6)[:0], 0)
}

func TestLeastOfOneRecordIsItsOwn(t *testing.T) { // P7.2
	for _, ttl := range spans {
		leastOf(t, records(ttl), ttl)
		leastOf(t, []api.RR{{TTL: ttl}}, ttl)
	}
}

func TestLeastAtEachPlace(t *testing.T) { // P7.2
	for many := 1; many <= 9; many++ {
		for place := range many {
			for _, least := range []uint32{0, 1, 5, 255, 65535, 1<<31 - 1, 1 << 31, most32 - 1} {
				ttls := slices.Repeat([]uint32{most32}, many)
				ttls[place] = least
				leastOf(t, records(ttls...), least)
				for i := range ttls { // now each of the others is another one
					if i != place {
						ttls[i] = least + min(most32-least, uint32(1+(7*i+3)%many))
					}
				}
				leastOf(t, records(ttls...), least)
			}
		}
	}
	leastOf(t, records(4, 9, 7), 4)
	leastOf(t, records(9, 4, 7), 4)
	leastOf(t, records(9, 7, 4), 4)
	leastOf(t, records(256, 1), 1)
	leastOf(t, records(1<<31, 5), 5) // a time to live with the highest bit set counts as it is
	leastOf(t, records(5, most32), 5)
	leastOf(t, records(1<<31, most32), 1<<31)
	leastOf(t, records(3, 0, 2), 0)
}

func TestLeastOfTheSame(t *testing.T) { // P7.2
	for _, ttl := range spans {
		for many := 2; many <= 5; many++ {
			leastOf(t, records(slices.Repeat([]uint32{ttl}, many)...), ttl)
		}
	}
	leastOf(t, records(7, 4, 9, 4, 7), 4)
}

func TestLeastOfPartOfAList(t *testing.T) { // P7.2: what the list has room for, or is cut from, does not count
	l := records(1, 9, 4, 7, 2)
	leastOf(t, l[1:4], 4)
	leastOf(t, l[3:4], 7)
	leastOf(t, l[1:2:2], 9)
}

// sets asks With, and sees to it that only the times to live are new, and that the records stay as they were, also when
// what was answered is written to.
func sets(t *testing.T, l []api.RR, ttl uint32) {
	t.Helper()
	before := slices.Clone(l)
	got := With(l, ttl)
	var want []api.RR
	for _, r := range before {
		want = append(want, api.RR{Name: r.Name, Type: r.Type, Class: r.Class, TTL: ttl, Data: r.Data})
	}
	if !slices.Equal(got, want) {
		t.Errorf("With(%v, %d) = %v", before, ttl, got)
	}
	if !slices.Equal(l, before) {
		t.Errorf("With changed %v to %v", before, l)
	}
	for i := range got {
		got[i] = api.RR{Name: "other"}
	}
	_ = append(got, api.RR{Name: "other"})
	if !slices.Equal(l, before) {
		t.Errorf("With shares its answer with %v", before)
	}
}

func TestWith(t *testing.T) { // P7.2, R3, R5
	for _, ttl := range spans {
		sets(t, records(9), ttl)
		sets(t, records(9, 4, 7), ttl)
		sets(t, records(spans...), ttl)
		sets(t, records(ttl, ttl), ttl) // nothing is new
		sets(t, []api.RR{{}}, ttl)
		sets(t, []api.RR{{Name: "no name", Type: 65535, Class: 65535, TTL: most32, Data: "no data"}}, ttl)
	}
	same := records(9)[0]
	sets(t, []api.RR{same, same, same}, 2)
}

func TestWithOfNoRecords(t *testing.T) { // P7.2, R2
	for _, ttl := range spans {
		sets(t, nil, ttl)
		sets(t, []api.RR{}, ttl)
	}
}

func TestWithOfPartOfAList(t *testing.T) { // P7.2, R3
	l := records(1, 9, 4, 7, 2)
	before := slices.Clone(l)
	for from := range l {
		for to := from; to <= len(l); to++ {
			sets(t, l[from:to], 3)
			if !slices.Equal(l, before) {
				t.Fatalf("With(l[%d:%d]) changed l to %v", from, to, l)
			}
		}
	}
}

func TestAnswersShareNothing(t *testing.T) { // R3, R4
	l := records(9, 4)
	a, b := With(l, 2), With(l, 3)
	a[0].Name = "other"
	l[1].Name = "another"
	if want := With(records(9, 4), 3); !slices.Equal(b, want) || a[1] != With(records(9, 4), 2)[1] {
		t.Errorf("With(l, 2) and With(l, 3) became %v and %v", a, b)
	}
}

func TestWithAndLeast(t *testing.T) { // P7.2
	for _, ttl := range spans {
		leastOf(t, With(records(9, 4, 7), ttl), ttl)
		leastOf(t, With(nil, ttl), 0)
	}
}

// falls lets time pass from now on until nothing is left, and sees to it that what is left falls one by one.
func falls(t *testing.T, expire, now uint64) {
	t.Helper()
	before := Left(expire, now)
	for now < last && before > 0 {
		now++
		after := Left(expire, now)
		if after != before-1 {
			t.Fatalf("Left(%d, %d) = %d, one before that %d", expire, now, after, before)
		}
		before = after
	}
	if before != 0 || Live(expire, now) {
		t.Errorf("Left(%d, %d) = %d at the end", expire, now, before)
	}
}

// stays sees to it that nothing is left from a time on, if nothing is left then.
func stays(t *testing.T, expire, now uint64) {
	t.Helper()
	left(t, expire, now, 0)
	for range 10 {
		if now == last {
			return
		}
		now++
		left(t, expire, now, 0)
	}
	for _, later := range moments {
		if later > now {
			left(t, expire, later, 0)
		}
	}
}

func TestTheRemainingTimeFallsOneByOne(t *testing.T) { // P7.3
	for _, now := range moments {
		for _, ttl := range []uint32{0, 1, 2, 5, 7, 255, 256, 1000} {
			expire := Until(now, ttl)
			left(t, expire, now, min(ttl, plainLeft(last, now)))
			falls(t, expire, now)
			stays(t, expire, expire)
		}
	}
	falls(t, Until(1<<32-500, 1000), 1<<32-500)
	falls(t, Until(3, 1<<20), 3)
}

func TestALongRemainingTimeFallsOneByOne(t *testing.T) { // P7.3
	for _, now := range moments {
		for _, ttl := range spans {
			if uint64(ttl) > last-now {
				continue
			}
			expire := Until(now, ttl)
			for _, passed := range spans {
				if passed > ttl {
					left(t, expire, now+min(uint64(passed), last-now), 0)
					continue
				}
				left(t, expire, now+uint64(passed), ttl-passed)
				if passed < ttl {
					left(t, expire, now+uint64(passed)+1, ttl-passed-1)
				}
			}
		}
	}
}

func TestTheLongestRemainingTimeFallsOnlyWhenItCanBeSaid(t *testing.T) { // P7.1, P7.3
	for _, expire := range []uint64{1<<32 + 10, 1 << 40, 1 << 63, last} {
		full := expire - (1<<32 - 1) // from here on, what is left is no more than can be said
		for now := full - 10; now <= full; now++ {
			left(t, expire, now, most32)
		}
		for passed := range uint32(10) {
			left(t, expire, full+uint64(passed), most32-passed)
		}
		falls(t, expire, expire-1000)
	}
}

func TestTheRemainingTimeNeverRises(t *testing.T) { // P7.3
	times := slices.Clone(moments)
	for _, now := range moments {
		for _, ttl := range spans {
			times = append(times, plainUntil(now, ttl))
		}
	}
	slices.Sort(times)
	for _, expire := range times {
		before, lived := uint32(most32), true
		for _, now := range times {
			after, lives := Left(expire, now), Live(expire, now)
			if after > before || lives && !lived {
				t.Fatalf("Left(%d, %d) = %d, before that %d", expire, now, after, before)
			}
			before, lived = after, lives
		}
	}
}

func TestExamples(t *testing.T) { // the document's own
	until(t, last-1, 5, last)
	left(t, 12, 7, 5)
}

// FuzzTimes holds Until, Left, Live and Clamp against their plain forms, and lets time pass: P1, P7.1 to P7.3.
func FuzzTimes(f *testing.F) {
	for i, now := range moments {
		f.Add(now, moments[(7*i+3)%len(moments)], spans[i%len(spans)], spans[(5*i+2)%len(spans)])
	}
	f.Fuzz(func(t *testing.T, now, other uint64, ttl, most uint32) {
		expire := plainUntil(now, ttl)
		until(t, now, ttl, expire)
		left(t, expire, now, plainLeft(expire, now))
		left(t, other, now, plainLeft(other, now))
		left(t, now, other, plainLeft(now, other))
		clamp(t, ttl, most, plainClamp(ttl, most))
		clamp(t, most, ttl, plainClamp(most, ttl))
		passed := now + min(uint64(most), last-now)
		left(t, expire, passed, plainLeft(expire, passed))
		for _, end := range []uint64{expire, other} {
			if Left(end, passed) > Left(end, now) {
				t.Errorf("Left(%d, %d) = %d, and %d at %d", end, now, Left(end, now), Left(end, passed), passed)
			}
		}
	})
}

// FuzzRecords holds Least and With against what P7.2 says of them: P1, P7.2. Four bytes are the time to live of a record.
func FuzzRecords(f *testing.F) {
	f.Add("", uint32(5))
	f.Add("\x00\x00\x00\x09", uint32(0))
	f.Add("\x00\x00\x00\x09\x00\x00\x00\x04\x00\x00\x00\x07", uint32(2))
	f.Add("\xff\xff\xff\xff\x80\x00\x00\x00\x7f\xff\xff\xff\x80\x00\x00\x00", uint32(most32))
	f.Fuzz(func(t *testing.T, s string, ttl uint32) {
		var ttls []uint32
		for ; len(s) >= 4; s = s[4:] {
			ttls = append(ttls, uint32(s[0])<<24|uint32(s[1])<<16|uint32(s[2])<<8|uint32(s[3]))
		}
		l := records(ttls...)
		want := uint32(0)
		if len(ttls) > 0 {
			want = slices.Min(ttls)
		}
		leastOf(t, l, want)
		sets(t, l, ttl)
	})
}

func ExampleLeft() {
	expire := Until(7, 5)
	for now := uint64(7); Live(expire, now); now += 2 {
		fmt.Println(now, Left(expire, now))
	}
	fmt.Println(expire, Left(expire, expire))
	// Output:
	// 7 5
	// 9 3
	// 11 1
	// 12 0
}

func ExampleWith() {
	l := []api.RR{{Name: "\x02ab\x00", Type: api.A, TTL: 9}, {Name: "\x02ab\x00", Type: api.A, TTL: 4}}
	x := With(l, Clamp(Least(l), 3))
	fmt.Println(x[0].TTL, x[1].TTL, l[0].TTL, l[1].TTL)
	// Output:
	// 3 3 9 4
}
