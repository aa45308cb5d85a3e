package cache

import (
	"fmt"
	"slices"
	"testing"

	"derrick/api"
	"derrick/hash"
	"derrick/shard"
)

// plain is what the chapter says of a cache: who holds the lock of each shard, and what was done.
type plain struct {
	stores  []*shard.Shard
	holders []*task
	history []Event
}

// task is what the chapter says of a job. It has all the steps that it is to take, one by one.
type task struct {
	deed   Deed
	ahead  []move
	events []Event
}

type move struct {
	what string
	at   int
}

func newPlain(shards, room, size int) *plain {
	p := &plain{holders: make([]*task, shards)}
	for range shards {
		p.stores = append(p.stores, shard.New(room, size))
	}
	return p
}

func (p *plain) begin(d Deed) *task {
	k := &task{deed: d}
	for i := range p.stores {
		if d.Kind == Advance || i == hash.Shard(d.E.Q, len(p.stores)) {
			k.ahead = append(k.ahead, move{"lock", i}, move{"work", i}, move{"unlock", i})
		}
	}
	return k
}

// waits reports whether the next step of a task would do nothing.
func (p *plain) waits(k *task) bool {
	return len(k.ahead) > 0 && k.ahead[0].what == "lock" && p.holders[k.ahead[0].at] != nil
}

func (p *plain) step(k *task) bool {
	if len(k.ahead) == 0 {
		return true
	}
	if p.waits(k) {
		return false
	}
	switch m := k.ahead[0]; m.what {
	case "lock":
		p.holders[m.at] = k
	case "work":
		e := work(p.stores[m.at], k.deed)
		e.Shard = m.at
		k.events, p.history = append(k.events, e), append(p.history, e)
	case "unlock":
		p.holders[m.at] = nil
	}
	k.ahead = k.ahead[1:]
	return len(k.ahead) == 0
}

// work is what a deed does at a shard.
func work(s *shard.Shard, d Deed) Event {
	e := Event{Deed: d}
	switch d.Kind {
	case Insert:
		e.Gone, e.Err = s.Insert(d.E, d.Now)
	case Lookup:
		e.Told, e.Is = s.Lookup(d.E.Q, d.Now)
	case Evict:
		if e.Is = s.Evict(d.E.Q); e.Is {
			e.Gone = append(e.Gone, d.E.Q)
		}
	case Advance:
		e.Gone = s.Advance(d.Now)
	}
	return e
}

// needs reports whether a deed needs a lock that is held.
func (p *plain) needs(d Deed) bool {
	return slices.ContainsFunc(p.begin(d).ahead, func(m move) bool { return p.holders[m.at] != nil })
}

func (p *plain) do(d Deed) []Event {
	if p.needs(d) {
		return nil
	}
	k := p.begin(d)
	for !p.step(k) {
	}
	return k.events
}

func (p *plain) stats() Stats {
	var s Stats
	for _, e := range p.history {
		if e.Deed.Kind == Lookup && e.Is {
			s.Hits++
		}
		if e.Deed.Kind == Lookup && !e.Is {
			s.Misses++
		}
		if e.Deed.Kind == Insert && e.Err == api.OK {
			s.Inserts++
		}
		if e.Deed.Kind == Insert && e.Err == api.ErrLow {
			s.Lows++
		}
		s.Gone += len(e.Gone)
	}
	return s
}

// pair has a cache, what the chapter says of it, and the jobs of both.
type pair struct {
	c     *Cache
	p     *plain
	jobs  []*Job
	tasks []*task
}

func newPair(shards, room, size int) *pair {
	return &pair{c: New(shards, room, size), p: newPlain(shards, room, size)}
}

func (b *pair) begin(d Deed) {
	b.jobs, b.tasks = append(b.jobs, b.c.Begin(d)), append(b.tasks, b.p.begin(d))
}

// step takes a step of a job and sees to it that it tells what the chapter says, and that there are then these events of it.
func (b *pair) step(t *testing.T, i int) {
	t.Helper()
	got, want := b.jobs[i].Step(), b.p.step(b.tasks[i])
	if got != want {
		t.Fatalf("a step of %v tells %t; ahead is %v", b.tasks[i].deed, got, b.tasks[i].ahead)
	}
	if l := b.jobs[i].Events(); !slices.EqualFunc(l, b.tasks[i].events, same) {
		t.Fatalf("Events = %v, want %v; ahead is %v", l, b.tasks[i].events, b.tasks[i].ahead)
	}
}

func (b *pair) do(t *testing.T, d Deed) {
	t.Helper()
	if got, want := b.c.Do(d), b.p.do(d); !slices.EqualFunc(got, want, same) {
		t.Fatalf("Do(%v) = %v, want %v", d, got, want)
	}
}

// check sees to it that there is what the chapter says.
func (b *pair) check(t *testing.T) {
	t.Helper()
	if l := b.c.History(); !slices.EqualFunc(l, b.p.history, same) {
		t.Fatalf("History = %v, want %v", l, b.p.history)
	}
	if got, want := b.c.Stats(), b.p.stats(); got != want {
		t.Fatalf("Stats() = %v, want %v", got, want)
	}
	sum := 0
	for i, s := range b.p.stores {
		sum += s.Len()
		if got := b.c.Keys(i); !slices.Equal(got, s.Keys()) {
			t.Fatalf("Keys(%d) = %v, want %v", i, got, s.Keys())
		}
		if b.c.shards[i].held != (b.p.holders[i] != nil) {
			t.Fatalf("the lock of shard %d is held: %t", i, b.c.shards[i].held)
		}
	}
	if b.c.Len() != sum {
		t.Fatalf("Len() = %d, want %d", b.c.Len(), sum)
	}
	for i, j := range b.jobs {
		if !slices.EqualFunc(j.Events(), b.tasks[i].events, same) {
			t.Fatalf("Events = %v, want %v", j.Events(), b.tasks[i].events)
		}
	}
}

// schedules calls f with each row of so many steps of jobs 0 to jobs - 1.
func schedules(jobs, many int, f func([]int)) {
	row := make([]int, many)
	for {
		f(row)
		i := 0
		for ; i < many && row[i] == jobs-1; i++ {
			row[i] = 0
		}
		if i == many {
			return
		}
		row[i]++
	}
}

// few are deeds of two questions of shard 0 of 2, and of one of shard 1.
func few() []Deed {
	a, b, c := home(0, 2, 0), home(0, 2, 1), home(1, 2, 0)
	return []Deed{
		insert(api.Entry{Q: a, Rank: 2, Expire: 9}, 1), insert(api.Entry{Q: b, Rank: 3, Expire: 5}, 1), insert(api.Entry{Q: c, Rank: 2, Expire: 9}, 1),
		insert(api.Entry{Q: a, Rank: 1, Expire: 9}, 1), lookup(a, 2), lookup(c, 2), evict(a, 1), advance(9),
	}
}

// length returns how many steps a deed takes at two shards.
func length(d Deed) int {
	if d.Kind == Advance {
		return 6
	}
	return 3
}

func TestEveryInterleavingOfTwoJobs(t *testing.T) { // P14.1, P14.2, P14.3, P14.4
	deeds := few()
	for i, x := range deeds {
		for _, y := range deeds[i:] {
			schedules(2, length(x)+length(y)+1, func(row []int) {
				b := newPair(2, 1, 5)
				b.do(t, deeds[0])
				b.begin(x)
				b.begin(y)
				for _, k := range row {
					b.step(t, k)
				}
				b.check(t)
			})
		}
	}
}

func TestEveryInterleavingOfThreeJobs(t *testing.T) { // P14.1, P14.2, P14.3, P14.4
	deeds := few()
	for _, x := range [][]Deed{{deeds[0], deeds[1], deeds[4]}, {deeds[0], deeds[2], deeds[6]}, {deeds[2], deeds[3], deeds[5]}} {
		schedules(3, 9, func(row []int) {
			b := newPair(2, 1, 5)
			for _, d := range x {
				b.begin(d)
			}
			for _, k := range row {
				b.step(t, k)
			}
			b.check(t)
		})
	}
}

func TestJobsAtDifferentShardsDoNotWait(t *testing.T) { // P14.4
	for many := 3; many <= 16; many += 13 {
		schedules(3, 9, func(row []int) {
			c := New(many, 2, 5)
			var jobs []*Job
			for i := range 3 {
				jobs = append(jobs, c.Begin(lookup(home(many-1-i, many, 0), 1)))
			}
			var taken [3]int
			for _, k := range row {
				taken[k]++
				if got := jobs[k].Step(); got != (taken[k] >= 3) {
					t.Errorf("with %d shards, step %d of job %d tells %t in %v", many, taken[k], k, got, row)
				}
			}
		})
	}
}

func TestOfTwoJobsAtOneShardOneWaits(t *testing.T) { // P14.4
	for many := 1; many <= 16; many += 15 {
		schedules(2, 9, func(row []int) {
			c := New(many, 2, 5)
			jobs := []*Job{c.Begin(lookup(home(many-1, many, 0), 1)), c.Begin(lookup(home(many-1, many, 1), 1))}
			var taken [2]int
			for _, k := range row {
				other := taken[1-k]
				if taken[k] > 0 || other%3 == 0 {
					taken[k] = min(taken[k]+1, 3)
				}
				if got := jobs[k].Step(); got != (taken[k] == 3) {
					t.Errorf("with %d shards, a step of job %d tells %t in %v", many, k, got, row)
				}
				for k, j := range jobs {
					if l := j.Events(); (len(l) == 1) != (taken[k] >= 2) || len(l) > 1 {
						t.Errorf("with %d shards, job %d has done %v in %v", many, k, l, row)
					}
				}
			}
		})
	}
}

func TestTheFirstToTakeAFreeLockHasIt(t *testing.T) { // P14.4
	c := New(1, 2, 5)
	first := begun(t, c, insert(e("a", 3, 9), 1), 1)
	waited, late := begun(t, c, lookup(q("a"), 1), 5), c.Begin(evict(q("a"), 1))
	steppedTo(t, first, false, true)
	steppedTo(t, late, false)
	steppedTo(t, waited, false, false)
	steppedTo(t, late, false, true)
	steppedTo(t, waited, false, false, true)
	are(t, "Events", waited.Events(), Event{Deed: lookup(q("a"), 1)})
}

func TestJobsOfOneCacheDoNotWaitForThoseOfAnother(t *testing.T) { // P14.4, R4
	a, b := New(1, 2, 5), New(1, 2, 5)
	j, k := begun(t, a, lookup(q("a"), 1), 1), begun(t, b, lookup(q("a"), 1), 1)
	steppedTo(t, j, false, true)
	steppedTo(t, k, false, true)
}

// The calls of an act.
const (
	begins = iota
	stepsOn
	does
)

// act is a call: of a job of that number, or with a deed.
type act struct {
	call, job int
	deed      Deed
}

// most is how many jobs are under way at one time, at most.
const most = 5

// questions are so many.
func questions(many int) []api.Question {
	var l []api.Question
	for i := range many {
		l = append(l, numbered(i*29))
	}
	return l
}

// mixed returns a row of calls, the same one for the same numbers. The times go on, but for a few that lie before.
func mixed(many int, l []api.Question, state uint64) []act {
	var all []act
	now := uint64(0)
	next := func(n int) int {
		state = state*6364136223846793005 + 1442695040888963407
		return int(state >> 33 % uint64(n))
	}
	for range many {
		now += uint64(next(9) / 7)
		d := Deed{Kind: []int{Insert, Insert, Insert, Insert, Lookup, Lookup, Lookup, Evict}[next(8)], Now: now}
		if next(8) == 0 {
			d.Kind = Advance
		}
		if next(9) == 0 {
			d.Now -= min(now, uint64(next(9)))
		}
		d.E = api.Entry{Q: l[next(len(l))], Rcode: next(3), Rank: 1 + next(5), Expire: d.Now + uint64(next(30))}
		if next(2) == 0 {
			d.E.RRs = []api.RR{{Name: d.E.Q.Name, TTL: uint32(next(9))}}
		}
		call := stepsOn
		switch next(9) {
		case 0, 1:
			call = begins
		case 2:
			call = does
		}
		all = append(all, act{call, next(most), d})
	}
	return all
}

// act makes a call of both. A job is begun in the place of one that is finished, or else one takes a step instead.
func (b *pair) act(t *testing.T, a act) {
	t.Helper()
	switch {
	case a.call == does:
		b.do(t, a.deed)
	case a.call == begins && len(b.jobs) < most:
		b.begin(a.deed)
	case a.job >= len(b.jobs):
	case a.call == begins && len(b.tasks[a.job].ahead) == 0:
		b.jobs[a.job], b.tasks[a.job] = b.c.Begin(a.deed), b.p.begin(a.deed)
	default:
		b.step(t, a.job)
	}
}

func TestLongSequences(t *testing.T) { // P14.1, P14.2, P14.3
	for k, many := range []int{1, 2, 3, 8, 16} {
		for _, room := range []int{1, 3, 64} {
			b := newPair(many, room, 5)
			for i, a := range mixed(4000, questions(many*room*2), uint64(k)) {
				b.act(t, a)
				if i%50 == 0 {
					b.check(t)
				}
			}
			b.check(t)
		}
	}
}

func TestLongSequencesHaveAllThatCanHappen(t *testing.T) { // so that TestLongSequences sees it
	for k, many := range []int{1, 2, 3, 8, 16} {
		b := newPair(many, 3, 5)
		var waits, goesOn, finished, done, refused, refusedLater int
		for _, a := range mixed(4000, questions(many*6), uint64(k)) {
			if a.call == stepsOn && a.job < len(b.tasks) {
				task := b.tasks[a.job]
				switch {
				case len(task.ahead) == 0:
					finished++
				case b.p.waits(task):
					waits++
				default:
					goesOn++
				}
			}
			if a.call == does {
				switch {
				case !b.p.needs(a.deed):
					done++
				case a.deed.Kind == Advance && b.p.holders[0] == nil:
					refusedLater++
				default:
					refused++
				}
			}
			b.act(t, a)
		}
		var none, gone, advanced, evicted int
		for _, e := range b.p.history {
			switch {
			case e.Err == api.ErrNone:
				none++
			case e.Deed.Kind == Insert && len(e.Gone) > 0:
				gone++
			case e.Deed.Kind == Advance && len(e.Gone) > 0:
				advanced++
			case e.Deed.Kind == Evict && e.Is:
				evicted++
			}
		}
		s := b.p.stats()
		counts := []int{waits, goesOn, finished, done, refused, none, gone, advanced, evicted, s.Hits, s.Misses, s.Inserts, s.Lows}
		if slices.Min(counts) < 5 || many > 1 && refusedLater < 5 {
			t.Errorf("with %d shards, these happen so often: %v, %d", many, counts, refusedLater)
		}
	}
}

// watch has what P14.4 speaks of: for each job, how many steps it has taken, and how long the history was around each of them.
type watch struct {
	c    *Cache
	jobs []*watched
	all  []*watched
}

type watched struct {
	job    *Job
	deed   Deed
	visits []visit
}

// visit is a stay at a shard. The times are lengths of the history, or -1 before the step.
type visit struct{ at, locked, freed int }

// holder returns the job that is at a shard, if there is one.
func (w *watch) holder(i int) *watched {
	for _, x := range w.all {
		for _, v := range x.visits {
			if v.at == i && v.freed < 0 {
				return x
			}
		}
	}
	return nil
}

func (w *watch) begin(d Deed) *watched {
	x := &watched{job: w.c.Begin(d), deed: d}
	w.all = append(w.all, x)
	return x
}

// next returns the shard at which a job that is at none is next.
func (w *watch) next(x *watched) int {
	if x.deed.Kind == Advance {
		return len(x.visits)
	}
	return hash.Shard(x.deed.E.Q, len(w.c.shards))
}

// stay returns the visit that a job is at, or nil.
func (x *watched) stay() *visit {
	if len(x.visits) == 0 || x.visits[len(x.visits)-1].freed >= 0 {
		return nil
	}
	return &x.visits[len(x.visits)-1]
}

// ended reports whether a job has been at all of its shards.
func (w *watch) ended(x *watched) bool {
	all := 1
	if x.deed.Kind == Advance {
		all = len(w.c.shards)
	}
	return len(x.visits) == all && x.stay() == nil
}

// step takes a step of a job and sees to it that it takes its lock, does its deed or frees its lock in its turn, and waits only for another job that is at the same shard.
func (w *watch) step(t *testing.T, x *watched) {
	t.Helper()
	ended, had, was := w.ended(x), len(x.job.Events()), len(w.c.History())
	told := x.job.Step()
	is, have := len(w.c.History()), len(x.job.Events())
	if is-was != have-had {
		t.Fatalf("a step of %v added %d events to it and %d to the history", x.deed, have-had, is-was)
	}
	v := x.stay()
	switch {
	case ended:
		if have != had {
			t.Fatalf("%v goes on when it is finished", x.deed)
		}
	case v == nil:
		if have != had {
			t.Fatalf("%v is done before it has the lock", x.deed)
		}
		if i := w.next(x); w.holder(i) == nil {
			x.visits = append(x.visits, visit{i, was, -1})
		}
	case len(x.visits) > had:
		if have != had+1 || x.job.Events()[had].Shard != v.at {
			t.Fatalf("%v is not done at its second step at shard %d", x.deed, v.at)
		}
	default:
		if have != had {
			t.Fatalf("%v is done once more at shard %d", x.deed, v.at)
		}
		v.freed = was
	}
	if told != w.ended(x) {
		t.Fatalf("a step of %v tells %t behind %v", x.deed, told, x.visits)
	}
}

// ordered sees to it that the history is a run of the shards, one deed behind the other, and has the events of each job while it is at its shards.
func (w *watch) ordered(t *testing.T, room int) {
	t.Helper()
	stores := newPlain(len(w.c.shards), room, 7).stores
	history := w.c.History()
	for i, e := range history {
		want := work(stores[e.Shard], e.Deed)
		want.Shard = e.Shard
		if !same(e, want) {
			t.Fatalf("event %d is %v, want %v", i, e, want)
		}
	}
	found := 0
	for _, x := range w.all {
		for k, e := range x.job.Events() {
			v := x.visits[k]
			until := v.freed
			if until < 0 {
				until = len(history)
			}
			among := slices.ContainsFunc(history[v.locked:until], func(o Event) bool { return same(o, e) })
			// Nobody else does anything at this shard meanwhile.
			others := 0
			for _, o := range history[v.locked:until] {
				if o.Shard == v.at {
					others++
				}
			}
			if !among || others != 1 {
				t.Fatalf("%v is not alone at shard %d, from %d to %d of %v", e, v.at, v.locked, until, history)
			}
			found++
		}
	}
	if found != len(history) {
		t.Fatalf("the jobs have %d events, and the history has %d", found, len(history))
	}
}

// act makes a call; a deed that is done to its end is a job that takes all of its steps.
func (w *watch) act(t *testing.T, a act) {
	t.Helper()
	switch {
	case a.call == begins && len(w.jobs) < most:
		w.jobs = append(w.jobs, w.begin(a.deed))
	case a.job >= len(w.jobs):
	case a.call == begins && w.ended(w.jobs[a.job]):
		w.jobs[a.job] = w.begin(a.deed)
	default:
		w.step(t, w.jobs[a.job])
	}
}

func TestTheHistoryIsOneOrder(t *testing.T) { // P14.4
	for k, many := range []int{1, 2, 5, 16} {
		for _, room := range []int{1, 4} {
			w := &watch{c: New(many, room, 5)}
			for _, a := range mixed(900, questions(many*room*2), uint64(50+k)) {
				w.act(t, a)
			}
			w.ordered(t, room)
		}
	}
}

// run is what a cache returns behind each of a row of calls.
func run(many, room, size int, acts []act) string {
	c := New(many, room, size)
	var jobs []*Job
	var text []byte
	for _, a := range acts {
		switch {
		case a.call == does:
			text = fmt.Appendln(text, c.Do(a.deed))
		case a.call == begins:
			jobs = append(jobs, c.Begin(a.deed))
		default:
			for _, j := range jobs[max(0, len(jobs)-a.job):] {
				text = fmt.Appendln(text, j.Step(), j.Events())
			}
		}
		text = fmt.Appendln(text, c.Stats(), c.Len(), c.Keys(a.job))
	}
	return string(fmt.Appendln(text, c.History()))
}

func TestNothingHangsOnTheSizeOrOnTheOrderOfAMap(t *testing.T) { // R4
	for k, many := range []int{1, 3, 16} {
		acts := mixed(500, questions(many*6), uint64(200+k))
		want := run(many, 3, 5, acts)
		for _, size := range []int{1, 2, 5, 5, 5, 64, 256} {
			if got := run(many, 3, size, acts); got != want {
				t.Errorf("the same calls of two caches with %d shards do not return the same", many)
			}
		}
	}
}

// acts reads calls, each from six bytes. The times lie about a given one and may wrap round.
func acts(s string, l []api.Question, about uint64) []act {
	var all []act
	for ; len(s) >= 6; s = s[6:] {
		a := act{call: []int{begins, stepsOn, stepsOn, does}[s[0]%4], job: int(s[1] % most)}
		a.deed = Deed{Kind: 1 + int(s[1]/8%4), Now: about + uint64(s[5])}
		a.deed.E = api.Entry{Q: l[int(s[2])%len(l)], Rcode: int(s[0]), Rank: int(int8(s[3])), Expire: about + uint64(s[4])}
		if s[0] >= 128 {
			a.deed.E.RRs = []api.RR{{TTL: uint32(s[0])}}
		}
		all = append(all, a)
	}
	return all
}

// seeds gives f rows of calls to begin with.
func seeds(f *testing.F) {
	f.Add(1, 1, uint64(0), "\x00\x00\x00\x03\x09\x00\x00\x09\x00\x01\x03\x09\x01\x00\x00\x00\x00\x00\x01\x01\x00\x00\x00\x00\x02\x00\x00\x00\x00\x00\x03\x08\x00\x00\x00\x01")
	f.Add(3, 2, uint64(last-5), "\x03\x00\x00\x03\x03\x00\x03\x00\x01\x03\x05\x00\x80\x18\x02\x01\x05\x03\x01\x00\x00\x00\x00\x05\x03\x18\x00\x00\x00\x05\x03\x08\x01\x00\x00\x00")
	f.Add(16, 3, uint64(1<<63-4), "\x83\x00\x05\x09\x09\x00\x00\x18\x00\x00\x00\x09\x01\x00\x00\x00\x00\x00\x01\x00\x00\x00\x00\x00\x03\x10\x05\x00\x00\x00\x03\x08\x05\x00\x00\x00")
	f.Add(0, 0, uint64(0), "")
	f.Add(-1, 65, uint64(last), "\x00\x00\x00\x00\x00\x00")
}

// FuzzJobs holds a cache against what the chapter says of it, call by call: P1, P14.1, P14.2, P14.3.
func FuzzJobs(f *testing.F) {
	seeds(f)
	f.Fuzz(func(t *testing.T, many, room int, about uint64, calls string) {
		if (New(many, room, 5) != nil) != (1 <= many && many <= 16 && 1 <= room && room <= 64) {
			t.Errorf("New(%d, %d, 5) is nil: %t", many, room, New(many, room, 5) == nil)
		}
		many, room = 1+int(uint(many)%16), 1+int(uint(room)%5)
		b := newPair(many, room, 5)
		for _, a := range acts(calls, questions(many*room+3), about) {
			b.act(t, a)
			b.check(t)
		}
	})
}

// FuzzOrder sees to it that the history is one order of deeds, each of them done by a job that is alone at a shard: P1, P14.4.
func FuzzOrder(f *testing.F) {
	seeds(f)
	f.Fuzz(func(t *testing.T, many, room int, about uint64, calls string) {
		many, room = 1+int(uint(many)%16), 1+int(uint(room)%5)
		w := &watch{c: New(many, room, 5)}
		for _, a := range acts(calls, questions(many*room+3), about) {
			w.act(t, a)
		}
		w.ordered(t, room)
	})
}

func ExampleJob() {
	c := New(1, 2, 16)
	a := api.Entry{Q: api.Question{Name: "\x01a\x00", Type: api.A, Class: api.IN}, Rank: 5, Expire: 9}
	first, second := c.Begin(Deed{Kind: Insert, E: a, Now: 1}), c.Begin(Deed{Kind: Lookup, E: a, Now: 2})
	fmt.Println(first.Step(), second.Step(), second.Step())
	fmt.Println(first.Step(), first.Step(), len(first.Events()), len(second.Events()))
	fmt.Println(second.Step(), second.Step(), second.Step(), second.Events()[0].Is)
	fmt.Println(c.Len(), c.Stats())
	// Output:
	// false false false
	// false true 1 0
	// false false true true
	// 1 {1 0 1 0 0}
}
