package pool

import "sync"

// made is what was made of the slice of a number.
type made[T any] struct {
	number int
	thing  T
}

// share lets workers take slices' numbers, and tells what they make of them, as it comes. Whoever ranges over that up to its end knows that all of them have ended.
func share[T any](numbers []int, workers int, work func(number int) T) <-chan made[T] {
	tasks, done := make(chan int), make(chan made[T])
	var hands sync.WaitGroup
	for range min(workers, len(numbers)) {
		hands.Go(func() {
			for number := range tasks {
				done <- made[T]{number, work(number)}
			}
		})
	}
	go func() {
		for _, number := range numbers {
			tasks <- number
		}
		close(tasks)
		hands.Wait()
		close(done)
	}()
	return done
}
