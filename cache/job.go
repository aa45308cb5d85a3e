package cache

import (
	"slices"

	"derrick/api"
	"derrick/shard"
)

// The steps that a job takes at each shard.
const (
	acquires = iota
	performs
	releases
	steps // how many these are
)

// Job is a deed that is done step by step.
type Job struct {
	cache     *Cache
	deed      Deed
	operation func(Deed, *shard.Shard) Event
	shards    []int // where the deed is done
	taken     int   // steps, but for those that did nothing
	events    []int // their places in the history, which has them already
}

// Begin returns a job that has not taken a step, or nil if there is no such kind of deed.
func (c *Cache) Begin(d Deed) *Job {
	operation := operationOf(d.Kind)
	if c.many() == 0 || operation == nil {
		return nil
	}
	d.E.RRs = slices.Clone(d.E.RRs) // the caller may change its own
	return &Job{cache: c, deed: d, operation: operation, shards: c.shardsOf(d)}
}

// Step takes the next step, unless another job holds the lock that it needs, and reports whether the job is finished.
func (j *Job) Step() bool {
	if j.finished() {
		return true
	}
	number := j.shards[j.taken/steps]
	at := &j.cache.shards[number]
	switch j.taken % steps {
	case acquires:
		if at.held {
			return false
		}
		at.held = true
	case performs:
		j.perform(number)
	case releases:
		at.held = false
	}
	j.taken++
	return j.finished()
}

// Events returns what the job has done so far, in order.
func (j *Job) Events() []Event {
	if j == nil {
		return nil
	}
	var l []Event
	for _, place := range j.events {
		l = append(l, j.cache.history[place])
	}
	return copies(l)
}

// finished reports whether the job has no step to take.
func (j *Job) finished() bool {
	return j == nil || j.taken == steps*len(j.shards)
}

// blocked reports whether a job that has not taken a step would come to a lock that another one holds.
func (j *Job) blocked() bool {
	if j == nil {
		return false
	}
	return slices.ContainsFunc(j.shards, func(i int) bool { return j.cache.shards[i].held })
}

// perform does the deed at a shard and records it.
func (j *Job) perform(number int) {
	e := j.operation(j.deed, j.cache.shards[number].store)
	e.Deed, e.Shard = j.deed, number
	j.events = append(j.events, len(j.cache.history))
	j.cache.history = append(j.cache.history, e)
}

// operationOf returns what deeds of a kind do at a shard, or nil if there is no such kind.
func operationOf(kind int) func(Deed, *shard.Shard) Event {
	switch kind {
	case Insert:
		return Deed.insert
	case Lookup:
		return Deed.lookup
	case Evict:
		return Deed.evict
	case Advance:
		return Deed.advance
	}
	return nil
}

// insert stores the entry of the deed.
func (d Deed) insert(s *shard.Shard) Event {
	gone, err := s.Insert(d.E, d.Now)
	return Event{Gone: gone, Err: err}
}

// lookup finds the entry of the deed's question.
func (d Deed) lookup(s *shard.Shard) Event {
	told, is := s.Lookup(d.E.Q, d.Now)
	return Event{Told: told, Is: is}
}

// evict removes the entry of the deed's question.
func (d Deed) evict(s *shard.Shard) Event {
	if !s.Evict(d.E.Q) {
		return Event{}
	}
	return Event{Is: true, Gone: []api.Question{d.E.Q}}
}

// advance removes the entries that are due at the time of the deed.
func (d Deed) advance(s *shard.Shard) Event {
	return Event{Gone: s.Advance(d.Now)}
}
