package index

import (
	"maps"
	"slices"
	"sync"

	"roster/api"
)

// shards is how many goroutines build an index. It bounds them, however many Canons the entries have.
const shards = 16

// holding is what one attribute gives an entry. The values are the caller's memory: they are read while Build runs, and not kept.
type holding struct {
	number int
	values []string
}

// byCanon gathers what the entries have, beneath each Canon in the order of their numbers.
func byCanon(entries []api.Entry) map[string][]holding {
	held := map[string][]holding{}
	for number, e := range entries {
		for _, a := range e.Attrs {
			if len(a.Values) > 0 {
				held[a.Canon] = append(held[a.Canon], holding{number, a.Values})
			}
		}
	}
	return held
}

// rack is where the goroutines lay the columns that they have made.
type rack struct {
	lock    sync.Mutex
	columns map[string]column
}

func (r *rack) lay(canon string, c column) {
	r.lock.Lock()
	defer r.lock.Unlock()
	r.columns[canon] = c
}

// columnsOf deals the Canons out to goroutines. Each column is made by one of them alone, so it is the same whoever comes first.
func columnsOf(held map[string][]holding) map[string]column {
	r := rack{columns: make(map[string]column, len(held))}
	canons := slices.Sorted(maps.Keys(held))
	var workers sync.WaitGroup
	for shard := range min(shards, len(canons)) {
		workers.Add(1)
		go func() {
			defer workers.Done()
			for i := shard; i < len(canons); i += shards {
				r.lay(canons[i], columnOf(canons[i], held[canons[i]]))
			}
		}()
	}
	workers.Wait()
	return r.columns
}
