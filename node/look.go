package node

import (
	"slices"
	"sync"

	"causeway/api"
	"causeway/letter"
)

// mayAllBe tells whether each of some entries may be; so many workers look at them side by side.
func mayAllBe(entries []api.Entry, workers int) bool {
	faults := make([]api.Errno, len(entries)) // each number is taken by one worker, which alone writes there
	numbers := make(chan int)
	var all sync.WaitGroup
	for range workers {
		all.Add(1)
		go func() {
			defer all.Done()
			for i := range numbers {
				faults[i] = letter.CheckEntry(entries[i])
			}
		}()
	}
	for i := range entries {
		numbers <- i
	}
	close(numbers)
	all.Wait()
	return !slices.ContainsFunc(faults, isFault)
}

func isFault(e api.Errno) bool {
	return e != api.OK
}
