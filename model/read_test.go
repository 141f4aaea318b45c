package model_test

import (
	"slices"
	"testing"

	"rutter/api"
)

// TestRead: P20.1: rows by ports, rising, those that are gone, too, and chassis, rising, whatever the order in which they came; the same when asked again.
func TestRead(t *testing.T) {
	for _, step := range []int{1, 3, 7, 11, 15} {
		m := made(t, span)
		ticks(t, m, noon)
		var hosts []int
		for i := range 16 {
			n := (i*step + 5) % 16
			does(t, m, adds(n), api.Row{})
			hosts = append(hosts, n)
			slices.Sort(hosts)
			are(t, m, hosts...)
		}
		var rows []api.Row
		for i := range 32 {
			port := (i*step + 9) % 32
			does(t, m, asks(api.AddPort, port, 4), bound(port, 4, 1, 1))
			rows = append(rows, bound(port, 4, 1, 1))
			if i%5 == 0 {
				does(t, m, asks(api.RemovePort, port, 4), gone(port, 1, 2))
				rows[i] = gone(port, 1, 2)
			}
			has(t, m, rows...)
			has(t, m, rows...)
		}
	}
}
