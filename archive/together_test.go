package archive_test

import (
	"slices"
	"strconv"
	"strings"
	"sync"
	"testing"

	"chronicle/api"
	"chronicle/archive"
)

// batch is one goroutine's k-th Append: three events, which stay together.
func batch(worker, k int) []api.Event {
	l := make([]api.Event, 3)
	for i := range l {
		l[i] = api.Event{Kind: api.Begun, Task: strconv.Itoa(worker) + "-" + strconv.Itoa(k), Body: strconv.Itoa(i)}
	}
	return l
}

// wantBatches asks that each batch is there wholly, and each goroutine's in their order; it answers how many there are.
func wantBatches(t *testing.T, l []api.Event) int {
	next := map[string]int{}
	for i := 0; i < len(l); i += 3 {
		worker, k, _ := strings.Cut(l[i].Task, "-")
		if k != strconv.Itoa(next[worker]) {
			t.Errorf("%q where the goroutine's %d-th was to be", l[i].Task, next[worker])
		}
		next[worker]++
		w, _ := strconv.Atoi(worker)
		n, _ := strconv.Atoi(k)
		if !slices.EqualFunc(l[i:min(i+3, len(l))], batch(w, n), same) {
			t.Errorf("%+v is not one Append's", l[i:min(i+3, len(l))])
		}
	}
	return len(l) / 3
}

func TestWaysAppendsTogether(t *testing.T) {
	for range 50 {
		a := open(t, "")
		var group sync.WaitGroup
		for worker := range 8 {
			group.Go(func() {
				for k := range 8 {
					if errno := a.Append(1+k%3, batch(worker, k)...); errno != api.OK {
						t.Errorf("Append = %d", errno)
					}
				}
			})
		}
		group.Wait()
		if n := wantBatches(t, all(t, a)); n != 64 || a.Len() != 192 {
			t.Fatalf("%d batches, %d events", n, a.Len())
		}
		wantEvents(t, open(t, a.File()), all(t, a)...)
		wantMigrated(t, a)
	}
}

// TestWaysAllTogether: whatever is asked while others write, it is as it was between two of their calls.
func TestWaysAllTogether(t *testing.T) {
	for range 20 {
		a := open(t, "")
		var group sync.WaitGroup
		for worker := range 8 {
			group.Go(func() {
				for k := range 8 {
					a.Append(2, batch(worker, k)...)
					wantSettled(t, a)
					if worker == 0 {
						a.Migrate()
					}
					a.Append(2, api.Event{})
				}
			})
		}
		group.Wait()
		if n := wantBatches(t, all(t, a)); n != 64 {
			t.Fatalf("%d batches", n)
		}
		wantEvents(t, open(t, a.File()), all(t, a)...)
	}
}

func wantSettled(t *testing.T, a *archive.Archive) {
	least := a.Len()
	var l []api.Event
	for _, e := range a.Events() {
		l = append(l, e)
	}
	b, errno := archive.Open(a.File())
	if errno != api.OK {
		t.Errorf("Open of a file = %d", errno)
		return
	}
	var later []api.Event
	for _, e := range b.Events() {
		later = append(later, e)
	}
	if least%3 != 0 || len(l)%3 != 0 || len(later)%3 != 0 || len(l) < least || len(later) < len(l) {
		t.Errorf("%d, %d, %d events, one after the other", least, len(l), len(later))
		return
	}
	wantBatches(t, later)
	if !slices.EqualFunc(later[:len(l)], l, same) {
		t.Errorf("the file tells other events than there were")
	}
}

// TestWaysFullTogether: of those that come to the last places, only as many as there are take one.
func TestWaysFullTogether(t *testing.T) {
	for range 50 {
		a := open(t, "")
		wantAppend(t, a, 2, api.OK, many(190)...)
		var group sync.WaitGroup
		errnos := make([]api.Errno, 16)
		for worker := range errnos {
			group.Go(func() { errnos[worker] = a.Append(2, batch(worker, 0)...) })
		}
		group.Wait()
		slices.Sort(errnos)
		if a.Len() != 199 || errnos[2] != api.OK || errnos[3] != api.ErrMany || errnos[15] != api.ErrMany {
			t.Fatalf("%d events, %v", a.Len(), errnos)
		}
		wantEvents(t, open(t, a.File()), all(t, a)...)
	}
}

// TestWaysArchivesTogether: each has a mutex of its own, so that one may be called in another one's loop.
func TestWaysArchivesTogether(t *testing.T) {
	a, b := open(t, ""), open(t, "")
	wantAppend(t, a, 2, api.OK, many(20)...)
	var group sync.WaitGroup
	for range 4 {
		group.Go(func() {
			for _, e := range a.Events() {
				b.Append(2, e)
			}
		})
		group.Go(func() {
			for range b.Events() {
				a.Migrate()
			}
		})
	}
	group.Wait()
	wantEvents(t, a, many(20)...)
	if b.Len() != 80 {
		t.Errorf("%d events, want 80", b.Len())
	}
}
