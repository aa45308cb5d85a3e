package rank

import (
	"fmt"
	"math"
	"slices"
	"testing"

	"derrick/api"
)

const last = math.MaxUint64 // the last time that there is

// written has the names of the ranks, as the document writes and numbers them.
var written = map[int]string{1: "additional", 2: "authority", 3: "answer", 4: "authority aa", 5: "answer aa"}

// moments are times at which a comparison that was cut to fewer bits, or takes the highest bit for a sign, shows.
var moments = []uint64{
	0, 1, 2, 5, 9, 255, 256, 65536, 1<<31 - 1, 1 << 31, 1<<32 - 1, 1 << 32, 1<<32 + 1, 1 << 40,
	1<<63 - 1, 1 << 63, 1<<63 + 1, last - 1<<32, last - 2, last - 1, last,
}

// ranks are the five that there are, and others.
var ranks = []int{
	math.MinInt, math.MinInt + 1, math.MinInt + 3, -1<<32 - 1, -1 << 32, -1<<31 - 1, -1 << 31, -65536, -256, -7, -5, -2, -1,
	0, 1, 2, 3, 4, 5, 6, 7, 127, 128, 255, 256, 257, 65535, 65536, 65537,
	1<<31 - 1, 1 << 31, 1<<32 - 1, 1 << 32, 1<<32 + 1, 1<<32 + 5, math.MaxInt - 3, math.MaxInt - 1, math.MaxInt,
}

// lookalikes are other numbers that are n if only some of their bits are regarded, or if the sign is not.
func lookalikes(n int) []int {
	l := []int{^n, n + math.MinInt}
	if n != 0 {
		l = append(l, -n)
	}
	for _, bits := range []int{3, 8, 16, 31, 32, 48} {
		l = append(l, n+1<<bits, n-1<<bits)
	}
	return l
}

func of(t *testing.T, section int, aa bool, want int) {
	t.Helper()
	if got := Of(section, aa); got != want {
		t.Errorf("Of(%d, %t) = %d, want %d", section, aa, got, want)
	}
}

// noSection sees to it that there is no such section, with AA or without.
func noSection(t *testing.T, section int) {
	t.Helper()
	of(t, section, false, 0)
	of(t, section, true, 0)
}

func name(t *testing.T, r int, want string) {
	t.Helper()
	if got := Name(r); got != want {
		t.Errorf("Name(%d) = %q, want %q", r, got, want)
	}
}

// beats asks Beats, and sees to it that the entries stay as they were.
func beats(t *testing.T, old, e api.Entry, now uint64, want bool) {
	t.Helper()
	oldRRs, eRRs := slices.Clone(old.RRs), slices.Clone(e.RRs)
	if got := Beats(old, e, now); got != want {
		t.Errorf("Beats(rank %d until %d, rank %d, %d) = %t", old.Rank, old.Expire, e.Rank, now, got)
	}
	if !slices.Equal(old.RRs, oldRRs) || !slices.Equal(e.RRs, eRRs) {
		t.Errorf("Beats changed %v to %v, and %v to %v", oldRRs, old.RRs, eRRs, e.RRs)
	}
}

// beatsBare is beats for entries of which nothing is set but what is named.
func beatsBare(t *testing.T, oldRank int, expire uint64, rank int, now uint64, want bool) {
	t.Helper()
	beats(t, api.Entry{Rank: oldRank, Expire: expire}, api.Entry{Rank: rank}, now, want)
}

func TestRanksAreNumberedByCredibility(t *testing.T) { // P8.1
	got := [...]int{Additional, Authority, Answer, AuthorityAA, AnswerAA}
	if got != [...]int{1, 2, 3, 4, 5} {
		t.Errorf("the ranks are %v", got)
	}
}

func TestOfEachSection(t *testing.T) { // P8.1
	of(t, 1, true, AnswerAA)
	of(t, 1, false, Answer)
	of(t, 2, true, AuthorityAA)
	of(t, 2, false, Authority)
	of(t, 3, true, Additional) // no more credible with AA
	of(t, 3, false, Additional)
}

func TestOfNoSection(t *testing.T) { // P8.1
	for _, section := range []int{0, 4, 5, 6, -1, -2, -3, -4, math.MinInt, math.MinInt + 1, math.MaxInt, math.MaxInt - 1} {
		noSection(t, section)
	}
	for section := -1000; section <= 1000; section++ {
		if section < 1 || section > 3 {
			noSection(t, section)
		}
	}
	for section := 1; section <= 3; section++ {
		for _, x := range lookalikes(section) {
			noSection(t, x)
		}
	}
}

func TestNameOfEachRank(t *testing.T) { // P8.1
	name(t, Additional, "additional")
	name(t, Authority, "authority")
	name(t, Answer, "answer")
	name(t, AuthorityAA, "authority aa")
	name(t, AnswerAA, "answer aa")
}

func TestNameOfNoRank(t *testing.T) { // P8.1, P1
	for _, r := range []int{0, 6, 7, -1, -2, -3, -5, -6, math.MinInt, math.MinInt + 1, math.MaxInt, math.MaxInt - 1} {
		name(t, r, "")
	}
	for r := -1000; r <= 1000; r++ {
		name(t, r, written[r])
	}
	for r := range written {
		for _, x := range lookalikes(r) {
			name(t, x, written[x])
		}
	}
}

func TestNameOfWhatOfReturns(t *testing.T) { // P8.1
	for section, want := range map[int][2]string{
		0: {"", ""}, 1: {"answer", "answer aa"}, 2: {"authority", "authority aa"}, 3: {"additional", "additional"}, 4: {"", ""},
	} {
		name(t, Of(section, false), want[0])
		name(t, Of(section, true), want[1])
	}
}

func TestBeatsWhatIsLiveByRank(t *testing.T) { // P8.2
	for _, now := range moments {
		if now == last {
			continue // nothing is live then
		}
		for _, expire := range []uint64{now + 1, last} {
			for old := Additional; old <= AnswerAA; old++ {
				beatsBare(t, old, expire, old-1, now, false)
				beatsBare(t, old, expire, old, now, true)
				beatsBare(t, old, expire, old+1, now, true)
			}
		}
	}
	beatsBare(t, Answer, 9, AnswerAA, 5, true)
	beatsBare(t, AnswerAA, 9, Answer, 5, false)
	beatsBare(t, Answer, 9, AuthorityAA, 5, true)
	beatsBare(t, AuthorityAA, 9, Answer, 5, false)
	beatsBare(t, Authority, 9, Additional, 5, false)
	beatsBare(t, Additional, 9, Authority, 5, true)
	beatsBare(t, AnswerAA, 9, Additional, 5, false)
	beatsBare(t, Additional, 9, AnswerAA, 5, true)
}

func TestBeatsAroundTheTimeOfExpiry(t *testing.T) { // P8.2
	for _, now := range moments {
		beatsBare(t, Answer, now, Additional, now, true) // what expires now is not live
		if now < last {
			beatsBare(t, Answer, now+1, Additional, now, false)
			beatsBare(t, Answer, now+1, Answer, now, true)
			beatsBare(t, Answer, now+1, AnswerAA, now, true)
		}
		if now > 0 {
			beatsBare(t, Answer, now-1, Additional, now, true)
			beatsBare(t, Answer, now-1, Answer, now, true)
			beatsBare(t, Answer, now-1, AnswerAA, now, true)
		}
	}
}

func TestBeatsAtTheFirstAndTheLastTime(t *testing.T) { // P8.2
	beatsBare(t, AnswerAA, 0, Additional, 0, true)
	beatsBare(t, AnswerAA, 1, Additional, 0, false)
	beatsBare(t, AnswerAA, last, Additional, 0, false) // one below 0 if it has wrapped round
	beatsBare(t, AnswerAA, last, AnswerAA, 0, true)
	beatsBare(t, AnswerAA, last, Additional, last-1, false)
	beatsBare(t, AnswerAA, last, Additional, last, true) // nothing is live at the last time
	beatsBare(t, AnswerAA, last-1, Additional, last, true)
	beatsBare(t, AnswerAA, 0, Additional, last, true) // one above it if it has wrapped round
	beatsBare(t, AnswerAA, 1<<32, Additional, 0, false)
	beatsBare(t, AnswerAA, 1, Additional, 1<<32, true)
	beatsBare(t, AnswerAA, 1<<63, Additional, 1<<63-1, false)
	beatsBare(t, AnswerAA, 1<<63-1, Additional, 1<<63, true)
}

func TestBeatsWithRanksThatAreNoneOfTheFive(t *testing.T) { // P8.2, R5
	for _, old := range ranks {
		for _, now := range []uint64{0, 5, 1 << 32, last - 1} {
			if old > math.MinInt {
				beatsBare(t, old, now+1, old-1, now, false)
				beatsBare(t, old, now, old-1, now, true)
			}
			if old < math.MaxInt {
				beatsBare(t, old, now+1, old+1, now, true)
			}
			beatsBare(t, old, now+1, old, now, true)
		}
		beatsBare(t, old, last, math.MinInt, last, true)
	}
	// The difference of these has wrapped round.
	beatsBare(t, math.MaxInt, 9, math.MinInt, 5, false)
	beatsBare(t, math.MinInt, 9, math.MaxInt, 5, true)
	beatsBare(t, math.MaxInt, 9, -1, 5, false)
	beatsBare(t, -2, 9, math.MaxInt, 5, true)
	beatsBare(t, 2, 9, math.MinInt, 5, false)
	beatsBare(t, math.MinInt, 9, 1, 5, true)
	// And these are in another order if only their lowest bits are regarded.
	beatsBare(t, 256, 9, 5, 5, false)
	beatsBare(t, 5, 9, 256, 5, true)
	beatsBare(t, 1<<32, 9, 5, 5, false)
	beatsBare(t, 5, 9, 1<<32, 5, true)
	beatsBare(t, 0, 9, -1, 5, false) // a rank that there is not is not taken for none
	beatsBare(t, 7, 9, 6, 5, false)
	beatsBare(t, 6, 9, 5, 5, false)
	beatsBare(t, 1, 9, 0, 5, false)
}

// entries returns entries with the same rank and expiry time that differ in all else. Some of them are not valid.
func entries(rank int, expire uint64) []api.Entry {
	ab := api.Question{Name: "\x02ab\x00", Type: api.A, Class: api.IN}
	address := api.RR{Name: ab.Name, Type: api.A, Class: api.IN, TTL: 5, Data: "\x01\x02\x03\x04"}
	return []api.Entry{
		{Rank: rank, Expire: expire},
		{Q: ab, Rank: rank, Expire: expire},
		{Q: ab, RRs: []api.RR{address}, Rank: rank, Expire: expire},
		{Q: ab, RRs: []api.RR{address, {Name: "other", TTL: math.MaxUint32}}, Rank: rank, Expire: expire},
		{Q: ab, RRs: []api.RR{}, Rcode: api.NXDomain, Rank: rank, Expire: expire},
		{Q: api.Question{Name: "no name", Type: 65535, Class: 65535}, Rcode: math.MinInt, Rank: rank, Expire: expire},
		{Rcode: math.MaxInt, Rank: rank, Expire: expire},
	}
}

func TestBeatsHangsOnNothingElse(t *testing.T) { // P8.2, R3, R5
	for _, old := range entries(Answer, 6) {
		for _, expire := range []uint64{0, 4, 5, 6, 7, last} { // also if the new one is not live
			for _, rank := range []int{Additional, Authority} {
				for _, e := range entries(rank, expire) {
					beats(t, old, e, 5, false)
					beats(t, old, e, 6, true)
				}
			}
			for _, rank := range []int{Answer, AuthorityAA, AnswerAA} {
				for _, e := range entries(rank, expire) {
					beats(t, old, e, 5, true)
					beats(t, old, e, 6, true)
				}
			}
		}
	}
}

func TestWhatIsLiveAndMoreCredibleIsNeverReplaced(t *testing.T) { // P8.3
	for _, now := range moments {
		for _, expire := range moments {
			for i, rank := range ranks {
				for j, old := range ranks { // they ascend, so it is the indexes that say which one is more credible
					beatsBare(t, old, expire, rank, now, expire <= now || j <= i)
				}
			}
		}
	}
}

func TestWhatIsNotLiveIsAlwaysReplaced(t *testing.T) { // P8.2
	for _, now := range moments {
		for _, expire := range moments {
			for _, old := range ranks {
				if expire <= now {
					beatsBare(t, old, expire, math.MinInt, now, true)
					beatsBare(t, old, expire, Additional, now, true)
				}
			}
		}
	}
}

// TestWhatIsKept offers one entry after the other for the same place, and lets time pass.
func TestWhatIsKept(t *testing.T) { // P8.3
	kept := api.Entry{Rank: Additional, Expire: 3}
	refused, replaced := 0, 0
	for now := range uint64(1000) {
		before, e := kept, api.Entry{Rank: int(1 + now*now*now%5), Expire: now + 1 + now*7%23}
		if Beats(before, e, now) {
			kept = e
			replaced++
		} else {
			refused++
		}
		lives := before.Expire > now
		if lives && kept.Rank < before.Rank {
			t.Fatalf("at %d, rank %d takes the place of rank %d until %d", now, e.Rank, before.Rank, before.Expire)
		}
		if !lives && (kept.Rank != e.Rank || kept.Expire != e.Expire) {
			t.Fatalf("at %d, rank %d until %d keeps its place", now, before.Rank, before.Expire)
		}
	}
	if refused == 0 || replaced == 0 {
		t.Errorf("%d entries refused, and %d kept", refused, replaced)
	}
}

func TestBeatsItself(t *testing.T) { // P8.2
	for _, rank := range ranks {
		for _, now := range moments {
			for _, e := range entries(rank, 9) {
				beats(t, e, e, now, true)
			}
		}
	}
}

func TestExamples(t *testing.T) { // the document's own
	beatsBare(t, Of(1, false), 9, Of(1, true), 5, true)
	for now := range uint64(9) {
		beatsBare(t, Of(1, false), 9, Of(3, false), now, false)
		beatsBare(t, Of(1, true), 9, Of(3, true), now, false)
	}
	beatsBare(t, Of(1, false), 9, Of(3, false), 9, true)
}

// FuzzRanks holds Of and Name against what P8.1 says of them: P1, P8.1.
func FuzzRanks(f *testing.F) {
	for _, r := range ranks {
		f.Add(r)
	}
	f.Fuzz(func(t *testing.T, n int) {
		plain, authoritative := 0, 0
		switch n {
		case 1:
			plain, authoritative = 3, 5
		case 2:
			plain, authoritative = 2, 4
		case 3:
			plain, authoritative = 1, 1
		}
		of(t, n, false, plain)
		of(t, n, true, authoritative)
		name(t, n, written[n])
	})
}

// FuzzBeats holds Beats against what P8.2 says of it, and lets time pass: P1, P8.2, P8.3.
func FuzzBeats(f *testing.F) {
	for i, now := range moments {
		f.Add(ranks[(7*i+1)%len(ranks)], ranks[(5*i+2)%len(ranks)], moments[(3*i+1)%len(moments)], moments[(2*i)%len(moments)], now)
	}
	f.Fuzz(func(t *testing.T, oldRank, rank int, oldExpire, expire, now uint64) {
		for _, at := range []uint64{now, oldExpire, oldExpire - 1, oldExpire + 1, 0, last} {
			for i, old := range entries(oldRank, oldExpire) {
				beats(t, old, entries(rank, expire)[i], at, oldExpire <= at || oldRank <= rank)
			}
		}
	})
}

func ExampleName() {
	for section := 1; section <= 3; section++ {
		fmt.Println(Name(Of(section, false)) + ", " + Name(Of(section, true)))
	}
	// Output:
	// answer, answer aa
	// authority, authority aa
	// additional, additional
}

func ExampleBeats() {
	old := api.Entry{Rank: Answer, Expire: 12}
	fmt.Println(Beats(old, api.Entry{Rank: AnswerAA}, 7))
	fmt.Println(Beats(old, api.Entry{Rank: Additional}, 7))
	fmt.Println(Beats(old, api.Entry{Rank: Additional}, 12))
	// Output:
	// true
	// false
	// true
}
