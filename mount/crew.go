package mount

import "sync"

// crew: the workers of a machine as goroutines. Only one of them is at work at a time, the one that has a token, so what they share wants no lock.
type crew struct {
	machine *Machine
	tokens  []chan struct{} // one for each worker: a token a piece
	done    chan struct{}   // over this a worker tells that its piece is done
	found   chan finds
	running sync.WaitGroup
}

// start lets all workers of a machine wait for their tokens. They run till end is called.
func start(m *Machine) *crew {
	n := len(m.workers)
	c := &crew{
		machine: m,
		tokens:  make([]chan struct{}, n),
		done:    make(chan struct{}),
		found:   make(chan finds, n), // room for all: they end without anybody who reads
	}
	c.running.Add(n)
	for i := range c.tokens {
		c.tokens[i] = make(chan struct{})
		go c.work(i)
	}
	return c
}

// work does a piece for each token; when there are no more it sends what was found.
func (c *crew) work(i int) {
	defer c.running.Done()
	for {
		if _, more := <-c.tokens[i]; !more {
			break
		}
		c.machine.piece(i)
		c.done <- struct{}{}
	}
	c.found <- c.machine.workers[i].found
}

// step is Step, but that the worker does its piece in its own goroutine. Where there is no piece no token is sent.
func (c *crew) step(w int) {
	i := c.machine.number(w)
	if !c.machine.hasPiece(i) {
		return
	}
	c.tokens[i] <- struct{}{}
	<-c.done
}

// end lets all workers end, and puts together what they found.
func (c *crew) end() finds {
	for _, tokens := range c.tokens {
		close(tokens)
	}
	c.running.Wait()
	close(c.found)
	all := nothing(c.machine.over.shape)
	for f := range c.found {
		all.merge(f)
	}
	return all
}
