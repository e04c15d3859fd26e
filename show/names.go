package show

import (
	"iter"
	"strconv"
)

// maxFresh: how many names may be asked for.
const maxFresh = 1000

// Fresh: names that aren't taken.
func Fresh(n int, taken ...string) []string {
	if n <= 0 || n > maxFresh {
		return nil
	}
	list := make([]string, 0, n)
	for name := range free(taken) {
		list = append(list, name)
		if len(list) == n {
			break
		}
	}
	return list
}

// free: those of the names x0, x1, .. that are not taken. They have no end, so that whoever ranges over them has to stop.
func free(taken []string) iter.Seq[string] {
	used := map[string]struct{}{}
	for _, name := range taken {
		used[name] = struct{}{}
	}
	return func(yield func(string) bool) {
		for i := 0; ; i++ {
			name := "x" + strconv.Itoa(i)
			if _, ok := used[name]; !ok && !yield(name) {
				return
			}
		}
	}
}
