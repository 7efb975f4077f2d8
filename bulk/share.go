package bulk

import (
	"sync"

	"tocsin/api"
)

// shares is among how many goroutines users are shared out, at most.
const shares = 4

// askAll asks the rules of all, and gives what each is told, by the users' names, and how many conditions were asked.
func askAll(askers []asker) (map[string]api.Verdict, int) {
	p := pollOf(askers)
	found, done := make(chan finding), make(chan struct{})
	var working sync.WaitGroup
	count := min(shares, len(askers))
	for first := range count {
		working.Add(1)
		go func() {
			defer working.Done()
			for i := first; i < len(askers); i += count {
				found <- p.ask(askers[i])
			}
		}()
	}
	go func() {
		working.Wait()
		close(done)
	}()

	told := map[string]api.Verdict{}
	work := 0
	for {
		select {
		case f := <-found:
			told[f.verdict.User] = f.verdict
			work += f.asked
		case <-done: // found has no room of its own: all that was sent was taken ahead of this
			return told, work + p.common.asked()
		}
	}
}
