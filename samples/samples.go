// Package samples makes what the tests of several packages try; no layer calls it.
package samples

// Texts are all texts of at most n of the pieces, the shorter ones first.
func Texts(n int, pieces ...string) []string {
	out := []string{""}
	last := out
	for range n {
		var next []string
		for _, s := range last {
			for _, p := range pieces {
				next = append(next, s+p)
			}
		}
		out = append(out, next...)
		last = next
	}
	return out
}
