// Package samples makes what the tests of several packages try; no layer calls it.
package samples

// Texts are all texts of at most n of the pieces, the shorter ones first.
func Texts(n int, pieces ...string) []string {
	out := []string{""}
	last := out
	for range n {
		var next []string
		for _, s := range last {
			for _, p := range pieces {
				next = append(next, s+p)
			}
		}
		out = append(out, next...)
		last = next
	}
	return out
}

// Cuttings are the ways to cut a text into one to three pieces, empty ones too.
func Cuttings(s string) [][]string {
	out := [][]string{{s}}
	for i := range len(s) + 1 {
		out = append(out, []string{s[:i], s[i:]})
		for j := i; j <= len(s); j++ {
			out = append(out, []string{s[:i], s[i:j], s[j:]})
		}
	}
	return out
}

// Dice answers numbers from 0 to below n (above 0) that lie about, the same ones each time.
func Dice(seed uint64) func(n int) int {
	return func(n int) int {
		seed = seed*6364136223846793005 + 1442695040888963407
		return int(seed >> 33 % uint64(n))
	}
}
