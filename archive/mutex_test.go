package archive

import (
	"testing"
	"time"

	"chronicle/api"
)

// calls are all that an archive can be asked.
var calls = map[string]func(a *Archive){
	"Append": func(a *Archive) { a.Append(1, api.Event{Kind: api.Begun, Task: "t"}) },
	"Events": func(a *Archive) {
		for range a.Events() {
		}
	},
	"Len":     func(a *Archive) { a.Len() },
	"File":    func(a *Archive) { a.File() },
	"Migrate": func(a *Archive) { a.Migrate() },
}

// TestWaysEachCallWaits: a call that did not ask the mutex would go wrong too seldom to be seen.
func TestWaysEachCallWaits(t *testing.T) {
	for name, call := range calls {
		a, _ := Open("")
		ended := make(chan bool)
		a.mutex.Lock()
		go func() {
			call(a)
			close(ended)
		}()
		select {
		case <-ended:
			t.Errorf("%s does not wait for the mutex", name)
		case <-time.After(50 * time.Millisecond):
		}
		a.mutex.Unlock()
		<-ended
	}
}

func TestWaysMutexForEach(t *testing.T) {
	a, _ := Open("")
	b, _ := Open("")
	a.mutex.Lock()
	defer a.mutex.Unlock()
	for _, call := range calls {
		call(b)
	}
}
