package guard

import (
	"sync"

	"causeway/api"
)

// found is the verdict of the assertion at a place.
type found struct {
	place   int
	verdict api.Verdict
}

// judgeAll tells the verdicts of assertions, in their order; so many workers look at them side by side.
func (s *sight) judgeAll(list []api.Pending, workers int) []api.Verdict {
	places, answers, done := allPlaces(len(list)), make(chan found), make(chan struct{})
	var all sync.WaitGroup
	for range workers {
		all.Add(1)
		go func() {
			defer all.Done()
			for i := range places {
				answers <- found{i, s.judge(list[i])}
			}
		}()
	}
	go func() {
		all.Wait()
		close(done)
	}()
	return gather(len(list), answers, done)
}

// allPlaces is a channel from which each of so many places can be taken once. It has room for all of them, so that nobody has to wait who sends them.
func allPlaces(count int) <-chan int {
	places := make(chan int, count)
	for i := range count {
		places <- i
	}
	close(places)
	return places
}

// gather lays each answer at its place till all workers have ended. Who sends an answer waits till it is taken, so none is left then.
func gather(count int, answers <-chan found, done <-chan struct{}) []api.Verdict {
	verdicts := make([]api.Verdict, count)
	for {
		select {
		case a := <-answers:
			verdicts[a.place] = a.verdict
		case <-done:
			return verdicts
		}
	}
}

func (s *sight) judge(p api.Pending) api.Verdict {
	return api.Verdict{Number: p.Number, Known: s.isKnown(p.Commit), Right: s.isRight(p.Commit)}
}
